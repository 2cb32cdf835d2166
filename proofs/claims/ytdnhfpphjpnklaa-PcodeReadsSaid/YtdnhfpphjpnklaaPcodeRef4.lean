/- Bytes read as a program, as the document has it, walked: Read, short. -/
import Derived.Test.YtdnhfpphjpnklaaPcodeRef2
namespace Go.Proofs.Ytdnhfpphjpnklaa
open Go.RowKit

set_option maxRecDepth 1000000 in
set_option maxHeartbeats 16000000 in
/-- Behind the mark. -/
theorem ref_read_short (A : Option Addr) (n c : Nat) (bs : List Nat) (w : World) (hr : Row byteV w w.heap.size A n bs) (hb : ∀ x ∈ bs, x < 256) (hn : n ≤ 65536) (hnc : n ≤ c) (hcm : c ≤ maxLen) (out : List Nat) (s1 : R.St) (h0 : C.h0 bs = (out, s1)) (hlen : out.length = 0) (hw1 : s1.why ≠ 0) (hok : R.Ok bs s1) (d : C.PD) (s2 : R.St) (hx : C.rdPg bs s1 = (d, s2)) (s3 : R.St) (he : C.endOf n s2 = s3) (a b : Int) (ck : Nat) (hc : Q.check (C.pgOf d) = (a, b, ck)) (dF : C.PD) (aF wF : Nat) (hF : (s3.why = 0 → ck = 0 → dF = d ∧ aF = 0 ∧ wF = 0) ∧ (s3.why = 0 → ck ≠ 0 → dF = C.none_ ∧ aF = n ∧ wF = ck) ∧ (s3.why ≠ 0 → dF = C.none_ ∧ aF = s3.wh ∧ wF = s3.why)) :
    Calls Try.prog 9 #[.slice A n c] w (RefPost w dF aF wF) := by
  unfold RefPost
  have HR := kp hr; have HB := kp hb; have HH0 := kp h0; have HLen := kp hlen
  have HS0 : Kept (R.Ok bs C.s0) := kp ⟨Nat.zero_le _, Nat.zero_le _, by decide⟩
  clear hr hb h0 hlen
  have hb := HB.out
  obtain ⟨x1, t1, h1⟩ : ∃ x t, C.hd1 bs s1 = (x, t) := ⟨_, _, rfl⟩
  obtain ⟨x2, t2, h2⟩ : ∃ x t, C.hd2 bs s1 = (x, t) := ⟨_, _, rfl⟩
  obtain ⟨x3, t3, h3⟩ : ∃ x t, C.hd3 bs s1 = (x, t) := ⟨_, _, rfl⟩
  obtain ⟨m, t4, h4⟩ : ∃ x t, C.hd4 bs s1 = (x, t) := ⟨_, _, rfl⟩
  have h1' : R.num bs s1 16 = (x1, t1) := h1
  have h2' : R.num bs t1 16 = (x2, t2) := by have h := h2; unfold C.hd2 at h; rw [h1] at h; exact h
  have h3' : R.num bs t2 8 = (x3, t3) := by have h := h3; unfold C.hd3 at h; rw [h2] at h; exact h
  have h4' : R.num bs t3 16 = (m, t4) := by have h := h4; unfold C.hd4 at h; rw [h3] at h; exact h
  have HNk : Kept (∀ (t : R.St) (most : Int) (x : Nat) (t' : R.St), R.num bs t most = (x, t') → R.Ok bs t → R.Ok bs t') := kp fun t most x t' hx ht => by
    have := (R.num_ok hb ht most).1
    rw [hx] at this; exact this
  have ok1 := HNk.out _ _ _ _ h1' hok
  have ok2 := HNk.out _ _ _ _ h2' ok1
  have ok3 := HNk.out _ _ _ _ h3' ok2
  have ok4 := HNk.out _ _ _ _ h4' ok3
  have hm16 : m ≤ 16 := by have := R.num_le (bs := bs) (s := t3) (most := 16) (by omega); rw [h4'] at this; omega
  have i1 : I64 ((x1 : Nat) : Int) := by have := C.num_i64 (bs := bs) s1 (most := 16) (by omega) (by omega); rw [h1'] at this; exact this
  have i2 : I64 ((x2 : Nat) : Int) := by have := C.num_i64 (bs := bs) t1 (most := 16) (by omega) (by omega); rw [h2'] at this; exact this
  have i3 : I64 ((x3 : Nat) : Int) := by have := C.num_i64 (bs := bs) t2 (most := 8) (by omega) (by omega); rw [h3'] at this; exact this
  have HXs : Kept ((C.rdFns bs m [] t4).2 = s2) := kp (by unfold C.rdPg at hx; rw [h4] at hx; exact (Prod.mk.inj hx).2)
  have HD : Kept (d = ⟨((x1 : Nat) : Int), ((x2 : Nat) : Int), ((x3 : Nat) : Int), (C.rdFns bs m [] t4).1⟩) := kp (by unfold C.rdPg at hx; rw [h4, h1, h2, h3] at hx; exact (Prod.mk.inj hx).1.symm)
  have hm0 : m = 0 := by
    have e1 := R.num_why (bs := bs) (most := 16) hw1
    rw [h1'] at e1
    obtain ⟨_, e1⟩ := Prod.mk.inj e1
    have e2 := R.num_why (bs := bs) (s := t1) (most := 16) (by rw [e1]; exact hw1)
    rw [h2'] at e2
    obtain ⟨_, e2⟩ := Prod.mk.inj e2
    have e3 := R.num_why (bs := bs) (s := t2) (most := 8) (by rw [e2, e1]; exact hw1)
    rw [h3'] at e3
    obtain ⟨_, e3⟩ := Prod.mk.inj e3
    have e4 := R.num_why (bs := bs) (s := t3) (most := 16) (by rw [e3, e2, e1]; exact hw1)
    rw [h4'] at e4
    exact (Prod.mk.inj e4).1
  have HS2w : Kept (s2.why ≠ 0) := kp (by
    have h := C.rdPg_keeps (P := fun s => s = s1) (C.stays_num bs s1 hw1) s1 rfl
    rw [hx] at h
    rw [show s2 = s1 from h]; exact hw1)
  have HOk1 := kp hok; have HN1 := kp h1'; have HN2 := kp h2'; have HN3 := kp h3'; have HN4 := kp h4'
  have HO1 := kp ok1; have HO2 := kp ok2; have HO3 := kp ok3; have HO4 := kp ok4
  have HI1 := kp i1; have HI2 := kp i2; have HI3 := kp i3; have HC := kp hc; have HEnd := kp he; have HCm := kp hcm; have HF := kp hF
  have HLk : Kept (∀ (t : R.St), R.Ok bs t → R.Ok bs (C.rdF bs [] ⟨0, 0, 0, 0⟩ t).2) := kp fun t ht => ht
  clear hok h1 h2 h3 h4 h1' h2' h3' h4' ok1 ok2 ok3 ok4 i1 i2 i3 hx hc he hcm hF
  have hwz : ((s1.why : Int) == 0) = false := by rw [beq_eq_false_iff_ne]; omega
  clear hw1
  go_enter Try.func9, Try.ntmps9
  go_wp2_with (first
    | ((with_reducible show wpList _ _ _ (⟨some 2, _, _, _, _, _⟩ :: _) _ _); go_must (refine wpList_alloc_zero rfl 26 rfl _ pcp_zero ?_); intro gr w1 hgr hk1 hw1; have HKa1 := kp hk1; have HW1 := kp hw1; have hs1 := hw1.size; have hl1 := hk1.lt; clear hk1 hw1)
    | ((with_reducible show wpList _ _ _ (⟨some 5, _, _, _, _, _⟩ :: _) _ _); go_must (refine wpList_alloc_zero rfl 26 rfl _ pcp_zero ?_); intro g5 w2 hg5 hk2 hw2
       have HKb2 := kp hk2; have HKa2 := kp (HKa1.out.below hw2 hl1); have HW2 := kp (HW1.out.trans (hw2.mono hs1)); have hs2 := hw2.size; have hl2 := hk2.lt
       clear hk2 hw2)
    | ((with_reducible show wpList _ _ _ (⟨none, _, _, _, _, _⟩ :: _) _ _); (refine wpList_store_blk rfl 26 (.tmp 5) (.tmp 21) rfl g5 [Value.int .i64 0, .int .i64 0, .int .i64 0, .slice none 0 0] rfl rfl _ _ HKb2.out pg_size rfl (pcp_ones pgNone) ?_); intro w3 hk3 hg3 hz3
       have HKb3 := kp hk3; have HKa3 := kp (HKa2.out.grown hg3 (by intro e; cases e; omega)); have HW3 := kp (HW2.out.grown hg3 (by omega) (by intro k e; cases e; omega)); have hs3 := HW3.out.size
       have HR3 := kp (HR.out.below HW3.out)
       clear hk3 hg3)
    | ((with_reducible refine wpList_box_agg rfl 53 (.tmp 27) rfl (rdC A n c C.s0) rfl ?_); intro g w4 hg4 hk4 hw4
       have HRd4 : Kept (Rd w4 g A n c C.s0) := kp hk4
       have HR4 := kp (HR3.out.below (hw4.mono hs3)); have HKa4 := kp (HKa3.out.below hw4 HKa3.out.lt); have HKb4 := kp (HKb3.out.below hw4 HKb3.out.lt); have HW4 := kp (HW3.out.trans (hw4.mono hs3)); have hs4 := HW4.out.size
       have hlg := hk4.lt
       have hla3 := HKa3.out.lt; have hlb3 := HKb3.out.lt
       clear hk4 hw4)
    | (go_at_call 19; go_must (refine (rd_raw g w.heap.size A n c bs C.s0 HS0.out 4 (by omega) out s1 HH0.out w4 HRd4.out HR4.out (by omega) (by omega) (by omega)).mono ?_); rintro e w5 ⟨v, rfl, hown, hk5, hgn5, hr5⟩
       obtain ⟨A7, c7, rfl, hc7, hm7, hr7⟩ := Own.readsN hown HLen.out
       have HRd5 := kp hk5; have HR5 := kp hr5; have HG5 := kp hgn5
       have HKa5 := kp (HKa4.out.grown hgn5 (by intro e; cases e; omega)); have HKb5 := kp (HKb4.out.grown hgn5 (by intro e; cases e; omega))
       have HW5 := kp (HW4.out.grown hgn5 hs4 (by intro k e; cases e; omega)); have hs5 := HW5.out.size; have hlg5 := hk5.lt
       obtain ⟨hq0, hq1, hq2, hq3, _, _, _⟩ := hk5.cells
       have hm77 : c7 ≤ 9223372036854775807 := by unfold maxLen at hm7; omega
       have hcv := cvr (c := c7) hr7
       clear hown hk5 hgn5 hr5 hm7 hr7)
    | ((with_reducible show wpList _ _ _ (⟨some 8, _, _, _, _, _⟩ :: _) _ _); go_must (refine wpList_alloc_zero rfl 26 rfl _ pcp_zero ?_); intro g8 w6 hg8 hk6 hw6
       have HKp6 := kp hk6; have HW6 := kp hw6; have hs6 := hw6.size; have hl6 := hk6.lt
       clear hk6 hw6)
    | ((with_reducible show wpList _ _ _ (⟨none, _, _, _, _, _⟩ :: _) _ _); (refine wpList_store_blk rfl 26 (.tmp 8) (.tmp 42) rfl g8 [Value.int .i64 0, .int .i64 0, .int .i64 0, .slice none 0 0] rfl rfl _ _ HKp6.out pg_size rfl (pcp_ones pgNone) ?_); intro wB hk7 hg7 hz7
       have HKp7 := kp hk7
       have HWB := kp (HW6.out.grown hg7 hs6 (by intro k e; cases e; exact hg8))
       have HRd7 := kp (HRd5.out.below HWB.out hlg5); have HKa7 := kp (HKa5.out.below HWB.out HKa5.out.lt); have HKb7 := kp (HKb5.out.below HWB.out HKb5.out.lt)
       have HR7 := kp (HR5.out.below (HWB.out.mono hs5)); have HW7 := kp (HW5.out.trans (HWB.out.mono hs5)); have hs7 := HW7.out.size
       have hl7 := hk7.lt; have hlg7 := HRd7.out.lt; have hla7 := HKa7.out.lt; have hlb7 := HKb7.out.lt
       have hgg8 : g < g8 := by omega
       have hsB : w5.heap.size ≤ wB.heap.size := HWB.out.size
       clear hk7 hg7))
  have HRowK : Kept (∀ W, Only (fun k => k = g ∨ k = g8) wB W → Row byteV W w.heap.size A n bs) := kp fun W hW => HR7.out.onlyB hW (by omega) fun k hk hg => by rcases hg with hg | hg <;> omega
  have HNum : Kept (∀ (t : R.St), R.Ok bs t → ∀ (most : Int) (x : Nat) (t' : R.St), R.num bs t most = (x, t') → ∀ W, Rd W g A n c t → Only (fun k => k = g ∨ k = g8) wB W →
      Calls Try.prog 20 #[.pointer (some ⟨g, 0, none⟩), .int .i64 most] W fun r w' => r = .returned (.int .i64 (x : Int)) ∧ Rd w' g A n c t' ∧ W.grownBy w' (some g) ∧ Only (fun k => k = g ∨ k = g8) wB w') := kp fun t ht most x t' hx W hW hO =>
    (rd_num g w.heap.size A n c bs t ht most x t' hx W hW (HRowK.out W hO) HB.out hnc HCm.out (by omega) (Nat.le_trans (by omega) hO.size)).mono fun r w' ⟨a1, a2, a3, _⟩ => ⟨a1, a2, a3, only_grown hO a3 (.inl (.inl rfl))⟩
  have HKaK : Kept (∀ W, Only (fun k => k = g ∨ k = g8) wB W → Blk W gr 26 [Value.int .i64 0, .int .i64 0, .int .i64 0, .slice none 0 0]) := kp fun W hW => hW.blk HKa7.out (by omega)
  have HKbK : Kept (∀ W, Only (fun k => k = g ∨ k = g8) wB W → Blk W g5 26 [Value.int .i64 0, .int .i64 0, .int .i64 0, .slice none 0 0]) := kp fun W hW => hW.blk HKb7.out (by omega)
  have HWK : Kept (∀ W, Only (fun k => k = g ∨ k = g8) wB W → Below w.heap.size w W) := kp fun W hW => HW7.out.trans (hW.below (by omega) fun k hk => by omega)
  have HOnB : Kept (Only (fun k => k = g ∨ k = g8) wB wB) := kp (Only.refl _ _)
  clear hq0 hq1 hq2 hq3 hwz hcv
  refine (HNum.out s1 HOk1.out 16 x1 t1 HN1.out wB HRd7.out HOnB.out).mono ?_
  rintro e u1 ⟨rfl, hk, hgr2, ho⟩
  have HBu := kp (HKp7.out.grown hgr2 (by intro e; cases e; omega))
  have HRu := kp hk; have HOu := kp ho
  have hcz : u1.cell? ⟨g8, 0, none⟩ = some (.int .i64 0) := HBu.out.cell 0
  have hfz := HBu.out.frozen 0
  clear hk hgr2 ho
  go_wp2_with fail
  have HR1v : Kept (Rd (u1.setCell ⟨g8, 0, none⟩ (.int .i64 (x1 : Int))) g A n c t1) := kp (Blk.other HRu.out _ _ (by show g ≠ g8; omega))
  have HO1v : Kept (Only (fun k => k = g ∨ k = g8) wB (u1.setCell ⟨g8, 0, none⟩ (.int .i64 (x1 : Int)))) := kp (HOu.out.trans (Only.set (.inr rfl)))
  have HB1v : Kept (Blk (u1.setCell ⟨g8, 0, none⟩ (.int .i64 (x1 : Int))) g8 26 [.int .i64 (x1 : Int), (.int .i64 0), (.int .i64 0), .slice none 0 0]) := kp (HBu.out.set 0 _)
  generalize u1.setCell ⟨g8, 0, none⟩ (.int .i64 (x1 : Int)) = v1 at *
  clear hcz hfz HBu HRu HOu
  refine (HNum.out t1 HO1.out 16 x2 t2 HN2.out v1 HR1v.out HO1v.out).mono ?_
  rintro e u2 ⟨rfl, hk, hgr2, ho⟩
  have HBu := kp (HB1v.out.grown hgr2 (by intro e; cases e; omega))
  have HRu := kp hk; have HOu := kp ho
  have hcz : u2.cell? ⟨g8, 1, none⟩ = some (.int .i64 0) := HBu.out.cell 1
  have hfz := HBu.out.frozen 1
  clear hk hgr2 ho
  go_wp2_with fail
  have HR2v : Kept (Rd (u2.setCell ⟨g8, 1, none⟩ (.int .i64 (x2 : Int))) g A n c t2) := kp (Blk.other HRu.out _ _ (by show g ≠ g8; omega))
  have HO2v : Kept (Only (fun k => k = g ∨ k = g8) wB (u2.setCell ⟨g8, 1, none⟩ (.int .i64 (x2 : Int)))) := kp (HOu.out.trans (Only.set (.inr rfl)))
  have HB2v : Kept (Blk (u2.setCell ⟨g8, 1, none⟩ (.int .i64 (x2 : Int))) g8 26 [.int .i64 (x1 : Int), .int .i64 (x2 : Int), (.int .i64 0), .slice none 0 0]) := kp (HBu.out.set 1 _)
  generalize u2.setCell ⟨g8, 1, none⟩ (.int .i64 (x2 : Int)) = v2 at *
  clear hcz hfz HBu HRu HOu
  refine (HNum.out t2 HO2.out 8 x3 t3 HN3.out v2 HR2v.out HO2v.out).mono ?_
  rintro e u3 ⟨rfl, hk, hgr2, ho⟩
  have HBu := kp (HB2v.out.grown hgr2 (by intro e; cases e; omega))
  have HRu := kp hk; have HOu := kp ho
  have hcz : u3.cell? ⟨g8, 2, none⟩ = some (.int .i64 0) := HBu.out.cell 2
  have hfz := HBu.out.frozen 2
  clear hk hgr2 ho
  go_wp2_with fail
  have HR3v : Kept (Rd (u3.setCell ⟨g8, 2, none⟩ (.int .i64 (x3 : Int))) g A n c t3) := kp (Blk.other HRu.out _ _ (by show g ≠ g8; omega))
  have HO3v : Kept (Only (fun k => k = g ∨ k = g8) wB (u3.setCell ⟨g8, 2, none⟩ (.int .i64 (x3 : Int)))) := kp (HOu.out.trans (Only.set (.inr rfl)))
  have HB3v : Kept (Blk (u3.setCell ⟨g8, 2, none⟩ (.int .i64 (x3 : Int))) g8 26 [.int .i64 (x1 : Int), .int .i64 (x2 : Int), .int .i64 (x3 : Int), .slice none 0 0]) := kp (HBu.out.set 2 _)
  generalize u3.setCell ⟨g8, 2, none⟩ (.int .i64 (x3 : Int)) = v3 at *
  clear hcz hfz HBu HRu HOu
  refine (HNum.out t3 HO3.out 16 m t4 HN4.out v3 HR3v.out HO3v.out).mono ?_
  rintro e u4 ⟨rfl, hk, hgr2, ho⟩
  have HB4v := kp (HB3v.out.grown hgr2 (by intro e; cases e; omega))
  have HR4v := kp hk; have HO4v := kp ho
  clear hk hgr2 ho HR1v HO1v HB1v HR2v HO2v HB2v HR3v HO3v HB3v
  go_wp2
  go_loopw [10] (fun v10 wr => ∃ (f : Nat) (L : List (List Nd)) (t : R.St) (fs : List Fn) (v3 : Value), f ≤ m ∧ v10 = .int .i64 f ∧ fs.map (·.nodes) = L ∧ L.length = f ∧ (C.rdFns bs (m - f) L t).2 = s2 ∧ (s2.why = 0 → (C.rdFns bs (m - f) L t).1 = d.L) ∧ R.Ok bs t ∧ Rd wr g A n c t ∧ Blk wr g8 26 [.int .i64 (x1 : Int), .int .i64 (x2 : Int), .int .i64 (x3 : Int), v3] ∧ Own wr wB.heap.size 43 v3 (fs.map fnV) ∧ (∀ fn ∈ fs, FnR wr wB.heap.size v3 fn) ∧ Only (fun k => k = g ∨ k = g8) wB wr) (fun v10 _ => m - (intOf v10).toNat)
  case atStart => exact ⟨0, [], t4, [], _, by omega, rfl, rfl, rfl, HXs.out, fun _ => by rw [HD.out]; rfl, HO4.out, HR4v.out, HB4v.out, Own.nil _ _ _, by simp, HO4v.out⟩
  case round =>
    clear HB4v HR4v HO4v HRd7 HKp7 HOnB
    obtain ⟨f, L, t, fs, v3, hf, rfl, hfl, hll, hrd, hrdL, hok, hpd, hblk, hown, hfns, honly⟩ := hrel
    have HFl := kp hfl; have HLl := kp hll; have HRd := kp hrd; have HRdL := kp hrdL; have HOk := kp hok; have HPd := kp hpd; have HBp := kp hblk; have HOwn := kp hown; have HFs := kp hfns; have HOn := kp honly
    obtain ⟨_, _, _, hqw, _, _, _⟩ := hpd.cells
    have hsr := honly.size
    have hl8 := hblk.lt; have hlgr := hpd.lt
    clear hfl hll hrd hrdL hok hpd hblk hown hfns honly
    by_cases hlt : f < m
    · by_cases hw : t.why = 0
      · have hwz : ((t.why : Int) == 0) = true := by rw [beq_iff_eq]; omega
        have hdl : decide (f < m) = true := decide_eq_true hlt
        exact absurd hlt (by omega)
      · have hwz : ((t.why : Int) == 0) = false := by rw [beq_eq_false_iff_ne]; omega
        have hdl : decide (f < m) = true := decide_eq_true hlt
        have HS2 : Kept (s2 = t ∧ s2.why ≠ 0) := kp (by
          have h := HRd.out
          rw [C.rdFns_keeps (P := fun s => s = t) (C.stays_num bs t hw) (m - f) L t rfl] at h
          rw [← h]; exact ⟨rfl, hw⟩)
        clear hw
        exact absurd hlt (by omega)
    · have hdl : decide (f < m) = false := decide_eq_false hlt
      have hmf : m - f = 0 := by omega
      have HS2 : Kept (t = s2) := kp (by have h := HRd.out; rw [hmf] at h; exact h)
      have HLe : Kept (s2.why = 0 → L = d.L) := kp (by intro h0; have h := HRdL.out h0; rw [hmf] at h; exact h)
      clear hlt
      obtain ⟨_, _, _, hqw, _, _, _⟩ := HPd.out.cells
      have hw : t.why ≠ 0 := by rw [HS2.out]; exact HS2w.out
      have hwz : ((t.why : Int) == 0) = false := by rw [beq_eq_false_iff_ne]; omega
      have HE3 : Kept (s3 = t) := kp (by rw [← HEnd.out, ← HS2.out]; exact C.endOf_at (fun h => hw h.1))
      have HNe : Kept (s3.why ≠ 0) := kp (by rw [HE3.out]; exact hw)
      have hwn : ((t.why : Int) != 0) = true := by rw [bne_iff_ne]; omega
      have HPd3 : Kept (Rd wr g A n c s3) := kp (by rw [HE3.out]; exact HPd.out)
      clear hw
      have HKaz := kp (HKaK.out wr HOn.out)
      have HKbz := kp (HKbK.out wr HOn.out)
      have HWz := kp (HWK.out wr HOn.out)
      have hszz := HWz.out.size
      have hgz := HPd3.out.lt
      have hgaz := HKaz.out.lt
      have hgbz := HKbz.out.lt
      go_wp2
      apply region_acts (fun k => k = gr) [9] (phs ([fun W => Blk W gr 26 [Value.int .i64 0, .int .i64 0, .int .i64 0, .slice none 0 0], fun W => Blk W gr 26 [Value.int .i64 0, .int .i64 0, .int .i64 0, .slice none 0 0]])) (.is _ :: .is _ :: .is _ :: .is _ :: .is _ :: .is _ :: .is _ :: .is _ :: .is _ :: .any _ :: .is _ :: .is _ :: [])
        [[], [], [(1, 139)], [(2, 140)], [(3, 141)], [], [(5, 143)], [(6, 144)], [(7, 145)], [(0, 138)], [(4, 142)], [(8, 146)]]
        [(0, 138), (1, 139), (2, 140), (3, 141), (4, 142), (5, 143), (6, 144), (7, 145), (8, 146), (10, 3), (11, 4)] (by kernel_rfl) (by kernel_rfl) (by kernel_rfl) (by decide)
      case h0 => exact HKaz.out
      case hob =>
        refine gobs_calm rfl ?o0 (gobs_calm rfl ?o1 (gobs_calm rfl ?o2 (gobs_calm rfl ?o3 (gobs_calm rfl ?o4 (gobs_calm rfl ?o5 (gobs_calm rfl ?o6 (gobs_calm rfl ?o7 (gobs_calm rfl ?o8 (gobs_act 0 rfl rfl ?o9 (gobs_calm rfl ?o10 (gobs_calm rfl ?o11 (gobs_nil))))))))))))
        case o0 =>
          intro p W hO hJ; change wpList _ _ _ _ _ _
          refine wpList_load_blk rfl 26 (.tmp 5) rfl g5 rfl _ [Value.int .i64 0, .int .i64 0, .int .i64 0, .slice none 0 0] _ (hO.blk HKbz.out (by omega)) Try.underlying26 rfl pg_size ?_
          go_wp2; exact calm_post rfl rfl rfl hJ
        case o1 => intro p W hO hJ; change wpList _ _ _ _ _ _; go_wp2; exact calm_post rfl rfl rfl hJ
        case o2 => intro p W hO hJ; rintro _ rfl; change wpList _ _ _ _ _ _; go_wp2; exact calm_post rfl rfl rfl hJ
        case o3 => intro p W hO hJ; rintro _ rfl; change wpList _ _ _ _ _ _; go_wp2; exact calm_post rfl rfl rfl hJ
        case o4 =>
          intro p W hO hJ; rintro _ rfl; change wpList _ _ _ _ _ _
          have hq : W.cell? ⟨g, 2, none⟩ = some (.int .i64 (s3.wh : Int)) := (hO.blk HPd3.out (by omega)).cell 2
          go_wp2; exact calm_post rfl rfl rfl hJ
        case o5 => intro p W hO hJ; change wpList _ _ _ _ _ _; go_wp2; exact calm_post rfl rfl rfl hJ
        case o6 => intro p W hO hJ; rintro _ rfl; change wpList _ _ _ _ _ _; go_wp2; exact calm_post rfl rfl rfl hJ
        case o7 => intro p W hO hJ; rintro _ rfl; change wpList _ _ _ _ _ _; go_wp2; exact calm_post rfl rfl rfl hJ
        case o8 =>
          intro p W hO hJ; rintro _ rfl; change wpList _ _ _ _ _ _
          have hq : W.cell? ⟨g, 3, none⟩ = some (.int .i64 (s3.why : Int)) := (hO.blk HPd3.out (by omega)).cell 3
          go_wp2; exact calm_post rfl rfl rfl hJ
        case o9 =>
          intro W hO hJ; rintro _ rfl; change wpList _ _ _ _ _ _
          have hj : Blk W gr 26 [Value.int .i64 0, .int .i64 0, .int .i64 0, .slice none 0 0] := hJ
          refine wpList_store_blk rfl 26 (.tmp 2) (.tmp 138) rfl gr [Value.int .i64 0, .int .i64 0, .int .i64 0, .slice none 0 0] rfl rfl _ _ hj pg_size rfl (pcp_ones pgNone) ?_
          intro wa hka hga hza
          go_wp2
          exact act_post0 rfl (Only.of_grown hga rfl) hka
        case o10 => intro p W hO hJ; rintro _ rfl; change wpList _ _ _ _ _ _; go_wp2; exact calm_post rfl rfl rfl hJ
        case o11 => intro p W hO hJ; rintro _ rfl; change wpList _ _ _ _ _ _; go_wp2; exact calm_post rfl rfl rfl hJ
      case hend =>
        intro W hO hJ; rintro _ rfl; rintro _ rfl; rintro _ rfl; rintro _ rfl; rintro _ rfl; rintro _ rfl; rintro _ rfl; rintro _ rfl; rintro _ rfl; rintro _ rfl; rintro _ rfl
        simp only [ggiven, put_lit, List.set]
        have HKa : Kept (Blk W gr 26 [Value.int .i64 0, .int .i64 0, .int .i64 0, .slice none 0 0]) := kp hJ
        have HBa : Kept (Below w.heap.size w W) := kp (HWz.out.trans ((Only.below hO hszz (fun k hk => by subst hk; exact hgr))))
        clear hJ hO
        go_wp2
        obtain ⟨rfl, rfl, rfl⟩ := HF.out.2.2 HNe.out
        refine bodyPost_ret (results_blk3 (P := Try.prog) (fn := Try.f9) rfl _ _ gr 26 _ _ _ _ rfl rfl rfl HKa.out Try.underlying26 rfl pg_size) rfl ⟨pgNone, rfl, pgNone_ok _ _, rfl, HBa.out⟩
end Go.Proofs.Ytdnhfpphjpnklaa

