/- The document's own reader, walked: Set. -/
import Derived.Test.YtgdnimhhhllgaaaDoorWireRef1
import Derived.Test.YtgdnimhhhllgaaaDoorSetRef2
namespace Go.Proofs.YtgdnimhhhllgaaaDoor
open Go.RowKit

/-- What an append to a slice of the call's own leaves as it was. -/
theorem rd_far {w w' : World} {g C : Nat} {A : Option Addr} {n c : Nat} {s : R.St} {e : TypeId} {v : Value} {xs : List Value} (h : Rd w g A n c s) (ho : Own w C e v xs) (hg : w.grownBy w' v.ownBlock) (hC : g < C) : Rd w' g A n c s :=
  Blk.grown h hg (by intro e1; have := ho.block g e1.symm; omega)
theorem rd_grew {w0 w w' : World} {g : Nat} {e : TypeId} {v : Value} {xs : List Value} (h : w0.grownBy w (some g)) (ho : Own w w0.heap.size e v xs) (hg : w.grownBy w' v.ownBlock) : w0.grownBy w' (some g) :=
  ⟨hg.os.trans h.os, hg.tape.trans h.tape, hg.output.trans h.output, Nat.le_trans h.size hg.size, fun i hi hne => (hg.block i (Nat.lt_of_lt_of_le hi h.size) (by intro e1; have := ho.block i e1.symm; omega)).trans (h.block i hi hne)⟩
theorem row_far {α : Type} {f : α → Value} {w w' : World} {B C : Nat} {A : Option Addr} {n : Nat} {l : List α} {e : TypeId} {v : Value} {xs : List Value} (h : Row f w B A n l) (ho : Own w C e v xs) (hg : w.grownBy w' v.ownBlock) (hB : B ≤ C) (hC : C ≤ w.heap.size) : Row f w' B A n l :=
  h.keep fun p hp => World.cell?_of_block (w := w) (hg.block p.block (by omega) (by intro e1; have := ho.block p.block e1.symm; omega))

set_option maxRecDepth 100000 in
set_option maxHeartbeats 4000000 in
theorem rd_set (g B : Nat) (A : Option Addr) (n c : Nat) (bs : List Nat) (s : R.St) (hs : R.Ok bs s) (size : Int) (hm64 : -9223372036854775808 ≤ size ∧ size ≤ 9223372036854775807) (m : Nat) (s' : R.St) (hx : R.set bs s size = (m, s')) (w : World) (hk : Rd w g A n c s)
    (hr : Row byteV w B A n bs) (hb : ∀ x ∈ bs, x < 256) (hnc : n ≤ c) (hm : c ≤ maxLen) (hBg : B ≤ g) (hBw : B ≤ w.heap.size) :
    Calls Tryd.prog 23 #[.pointer (some ⟨g, 0, none⟩), .int .i64 size] w fun r w' => r = .returned (.int .u32 (m : Int)) ∧ Rd w' g A n c s' ∧ w.grownBy w' (some g) ∧ Row byteV w' B A n bs := by
  obtain ⟨hm1, hm2⟩ := hm64
  have HK := kp hk; have HR := kp hr; have HB := kp hb; have HS := kp hs; have HX := kp hx; have HM := kp hm
  have hgs := hk.lt
  clear hk hr hs hx hb hm
  have hcases : 32 < size ∨ size < 0 ∨ (0 ≤ size ∧ size ≤ 32) := by omega
  rcases hcases with hc | hc | ⟨hca, hcb⟩
  · have hcl : R.clip size = 32 := by unfold R.clip; rw [if_neg (by omega), if_pos hc]
    obtain ⟨x0, s0, h0⟩ : ∃ x s1, R.num bs s 32 = (x, s1) := ⟨_, _, rfl⟩
    have hx0 : (x0 : Int) ≤ 32 := by have := R.num_le (bs := bs) (s := s) (most := 32) (by omega); rw [h0] at this; exact this
    have hok0 := R.num_ok HB.out HS.out 32
    rw [h0] at hok0
    have HRes : Kept (R.ids bs (32 - 1) x0 [] s0 = (m, s')) := kp <| by rw [← HX.out]; unfold R.set; rw [hcl, h0]
    have H0 := kp h0; have HOk0 := kp hok0.1
    clear h0 hok0 hcl
    go_enter Tryd.func23, Tryd.ntmps23
    go_wp2_with (go_at_call 18; go_must (refine (rd_num g B A n c bs s HS.out 32 x0 s0 H0.out w HK.out HR.out HB.out hnc HM.out hBg hBw).mono ?_); rintro e2 w2 ⟨rfl, hk2, hg2, hr2⟩; have HK2 := kp hk2; have HG2 := kp hg2; have HR2 := kp hr2; clear hk2 hg2 hr2)
    go_loopw [6, 7] (fun v6 v7 wr => ∃ (i : Nat) (l : List Nat) (t : R.St), i ≤ x0 ∧ v7 = .int .i64 i ∧ l.length = i ∧ R.ids bs (32 - 1) (x0 - i) l t = (m, s') ∧ R.Ok bs t ∧ (∀ y ∈ l, y ≤ 31) ∧ Own wr w.heap.size 3 v6 (l.map natV) ∧ Rd wr g A n c t ∧ w.grownBy wr (some g) ∧ Row byteV wr B A n bs) (fun _ v7 _ => x0 - (intOf v7).toNat)
    case atStart => exact ⟨0, [], s0, by omega, rfl, rfl, HRes.out, HOk0.out, by simp, Own.nil _ _ _, HK2.out, HG2.out, HR2.out⟩
    case round =>
      clear HK2 HG2 HR2 HRes H0 HOk0
      obtain ⟨i, l, t, hi, rfl, hl, hids, hok, hl31, hown, hrd, hgr, hrow⟩ := hrel
      have HIds := kp hids; have HOk := kp hok; have HL31 := kp hl31; have HOwn := kp hown; have HRd := kp hrd; have HGr := kp hgr; have HRow := kp hrow
      obtain ⟨_, hc1, _, hc3, hf1, _, _⟩ := hrd.cells
      have hsz := hgr.size
      have hgr2 : g < wr.heap.size := by omega
      have hlne : ∀ A0 n0 c0, ¬ ((Value.slice A0 n0 c0).ownBlock = some g ∧ w.heap.size ≤ g) := fun _ _ _ h => by omega
      clear hids hok hl31 hown hrd hgr hrow
      by_cases hlt : i < x0
      · obtain ⟨y, s1, h1⟩ : ∃ x s1, R.num bs t (32 - 1) = (x, s1) := ⟨_, _, rfl⟩
        have hy : (y : Int) ≤ 32 - 1 := by have := R.num_le (bs := bs) (s := t) (most := 32 - 1) (by omega); rw [h1] at this; exact this
        have hok1 := R.num_ok HB.out HOk.out (32 - 1)
        rw [h1] at hok1
        have HOk1 := kp hok1.1; have H1 := kp h1
        clear hok1 h1
        have hx1 : x0 - i = (x0 - (i + 1)) + 1 := by omega
        obtain ⟨A6, c6, rfl, hc6, hm6, hr6⟩ := Own.readsN HOwn.out hl
        have hm66 : c6 ≤ 9223372036854775807 := by unfold maxLen at hm6; omega
        have HR6 := kp hr6
        have HFar : Kept (∀ w5, wr.grownBy w5 (some g) → Own w5 w.heap.size 3 (.slice A6 i c6) (l.map natV)) := kp fun w5 hg5 => HOwn.out.far hg5 (by
          rcases hob : (Value.slice A6 i c6).ownBlock with _ | b0
          · exact .inl rfl
          · refine .inr ?_
            have := (HOwn.out.block b0 hob).1
            intro e; cases e; omega)
        clear hr6 hm6
        by_cases hw : s1.why = 0
        · have hwz : ((s1.why : Int) != 0) = false := by simp; omega
          have HNum : Kept (∀ w5, wr.grownBy w5 (some g) → Row natV w5 w5.heap.size A6 i l) := kp fun w5 hg5 => by
            obtain ⟨A7, c7, e7, _, _, h7⟩ := Own.readsN (HFar.out w5 hg5) hl
            cases e7
            exact h7
          by_cases hord : l ≠ [] ∧ y ≤ l.getLastD 0
          · have HE : Kept ((0, R.fail ⟨t.at_, s1.wh, s1.why⟩ 5) = (m, s')) := kp <| by rw [← HIds.out, hx1]; exact (R.ids_order H1.out hw hord).symm
            obtain ⟨j, hj⟩ : ∃ j, i = j + 1 := ⟨i - 1, by have := List.length_pos_iff.2 hord.1; omega⟩
            have hlast := R.last_at l j (by omega)
            obtain ⟨la, hla⟩ : ∃ la, l.getLastD 0 = la := ⟨_, rfl⟩
            have hyl : y ≤ la := by rw [← hla]; exact hord.2
            rw [hla] at hlast
            have HLast := kp hlast
            have hi0 : 0 < i := by omega
            clear hord hlast hla
            go_wp2_with (first
             | (go_at_call 18; go_must (refine (rd_num g B A n c bs t HOk.out (32 - 1) y s1 H1.out wr HRd.out HRow.out HB.out hnc HM.out hBg (by omega)).mono ?_); rintro e2 w3 ⟨rfl, hk3, hg3, hr3⟩
                have HK3 := kp hk3; have HG3 := kp hg3; have HR3 := kp hr3
                obtain ⟨_, hd1, _, hd3, he1, _, _⟩ := hk3.cells
                obtain ⟨ad, x, rfl, hab, hx, hcx⟩ := (HNum.out w3 hg3).get (k := j) (by omega)
                rw [HLast.out] at hx
                cases hx
                rw [natV_def] at hcx
                clear hk3 hg3 hr3 hc1 hc3 hf1)
             | (go_at_call 26; go_must (refine (rd_fail g _ n c ⟨t.at_, s1.wh, s1.why⟩ 5 _ rfl _ (show Rd _ g _ n c ⟨t.at_, s1.wh, s1.why⟩ from HK3.out.set 1 _)).mono ?_); rintro e4 w4 ⟨rfl, hk4, hg4⟩; have HK4 := kp hk4; have HG4 := kp hg4; clear hk4 hg4))
            go_ret
            have h1 := HE.out
            cases h1
            exact ⟨rfl, HK4.out, grown_trans HGr.out (grown_trans (grown_set HG3.out) HG4.out), (HR3.out.turned (grown_set (g := g) (grown_refl _ _)) (by have := HG3.out.size; omega) hBg).turned HG4.out (by simp; have := HG3.out.size; omega) hBg⟩
          · have HIn : Kept (R.ids bs (32 - 1) (x0 - (i + 1)) (l ++ [y]) s1 = (m, s')) := kp <| by rw [← HIds.out, hx1]; exact (R.ids_on H1.out hw hord).symm
            have hy31 : y ≤ 31 := by omega
            by_cases hi0 : 0 < i
            · obtain ⟨j, rfl⟩ : ∃ j, i = j + 1 := ⟨i - 1, by omega⟩
              have hlast := R.last_at l j (by omega)
              obtain ⟨la, hla⟩ : ∃ la, l.getLastD 0 = la := ⟨_, rfl⟩
              have hyl : la < y := by
                rw [hla] at hord
                have hne : l ≠ [] := by intro e; rw [e] at hl; simp at hl
                exact Nat.lt_of_not_le fun h => hord ⟨hne, h⟩
              rw [hla] at hlast
              have HLast := kp hlast
              clear hord hlast hla
              go_wp2_with (first
               | (go_at_call 18; go_must (refine (rd_num g B A n c bs t HOk.out (32 - 1) y s1 H1.out wr HRd.out HRow.out HB.out hnc HM.out hBg (by omega)).mono ?_); rintro e2 w3 ⟨rfl, hk3, hg3, hr3⟩
                  have HK3 := kp hk3; have HG3 := kp hg3; have HR3 := kp hr3
                  obtain ⟨_, hd1, _, hd3, he1, _, _⟩ := hk3.cells
                  have HO3 := kp (HFar.out w3 hg3)
                  have hB3 : w.heap.size ≤ w3.heap.size := Nat.le_trans hsz hg3.size
                  obtain ⟨ad, x, rfl, hab, hx, hcx⟩ := (HNum.out w3 hg3).get (k := j) (by omega)
                  rw [HLast.out] at hx
                  cases hx
                  rw [natV_def] at hcx
                  clear hk3 hg3 hr3 hc1 hc3 hf1)
               | (at_builtin; go_must (refine wpList_append_one rfl (.tmp 52) (.tmp 54) 56 rfl w.heap.size 3 _ _ Tryd.underlying56 int_info rfl _ _ _ _ rfl HO3.out _ 1 rfl rfl rfl (by simp [maxLen]; omega) (by simp; omega) hB3 ?_); intro v1 w5 hown1 hg1; have HO5 := kp hown1; clear hown1; have HG5 := kp hg1; clear hg1))
              go_roundw
              case rel => exact ⟨j + 1 + 1, l ++ [y], s1, by omega, by go_num, by simp; omega, HIn.out, HOk1.out, by intro z hz; rcases List.mem_append.1 hz with hz | hz; exact HL31.out z hz; rw [List.mem_singleton] at hz; omega, by rw [List.map_append]; exact HO5.out, rd_far HK3.out HO3.out HG5.out.1 hgs, rd_grew (grown_trans HGr.out HG3.out) HO3.out HG5.out.1, row_far HR3.out HO3.out HG5.out.1 hBw hB3⟩
              case measure => simp [intOf]; omega
            · have hi00 : decide (0 < (i : Int)) = false := by simpa using hi0
              clear hord
              go_wp2_with (first
               | (go_at_call 18; go_must (refine (rd_num g B A n c bs t HOk.out (32 - 1) y s1 H1.out wr HRd.out HRow.out HB.out hnc HM.out hBg (by omega)).mono ?_); rintro e2 w3 ⟨rfl, hk3, hg3, hr3⟩
                  have HK3 := kp hk3; have HG3 := kp hg3; have HR3 := kp hr3
                  obtain ⟨_, hd1, _, hd3, he1, _, _⟩ := hk3.cells
                  have HO3 := kp (HFar.out w3 hg3)
                  have hB3 : w.heap.size ≤ w3.heap.size := Nat.le_trans hsz hg3.size
                  clear hk3 hg3 hr3 hc1 hc3 hf1)
               | (at_builtin; go_must (refine wpList_append_one rfl (.tmp 52) (.tmp 54) 56 rfl w.heap.size 3 _ _ Tryd.underlying56 int_info rfl _ _ _ _ rfl HO3.out _ 1 rfl rfl rfl (by simp [maxLen]; omega) (by simp; omega) hB3 ?_); intro v1 w5 hown1 hg1; have HO5 := kp hown1; clear hown1; have HG5 := kp hg1; clear hg1))
              go_roundw
              case rel => exact ⟨i + 1, l ++ [y], s1, by omega, by go_num, by simp; omega, HIn.out, HOk1.out, by intro z hz; rcases List.mem_append.1 hz with hz | hz; exact HL31.out z hz; rw [List.mem_singleton] at hz; omega, by rw [List.map_append]; exact HO5.out, rd_far HK3.out HO3.out HG5.out.1 hgs, rd_grew (grown_trans HGr.out HG3.out) HO3.out HG5.out.1, row_far HR3.out HO3.out HG5.out.1 hBw hB3⟩
              case measure => simp [intOf]; omega
        · have hwz : ((s1.why : Int) != 0) = true := by simp; omega
          have HE : Kept ((0, s1) = (m, s')) := kp <| by rw [← HIds.out, hx1]; exact (R.ids_bad H1.out hw).symm
          clear hw
          go_wp2_with (first
           | (go_at_call 18; go_must (refine (rd_num g B A n c bs t HOk.out (32 - 1) y s1 H1.out wr HRd.out HRow.out HB.out hnc HM.out hBg (by omega)).mono ?_); rintro e2 w3 ⟨rfl, hk3, hg3, hr3⟩
              have HK3 := kp hk3; have HG3 := kp hg3; have HR3 := kp hr3
              obtain ⟨_, hd1, _, hd3, he1, _, _⟩ := hk3.cells
              clear hk3 hg3 hr3 hc1 hc3 hf1))
          go_ret
          have h1 := HE.out
          cases h1
          exact ⟨rfl, HK3.out, grown_trans HGr.out HG3.out, HR3.out⟩
      · have hxi : x0 - i = 0 := by omega
        have HE : Kept ((if t.why = 0 then S.mask l % 4294967296 else 0, t) = (m, s')) := kp <| by rw [← HIds.out, hxi, R.ids_zero]
        by_cases hw : t.why = 0
        · have hwz : ((t.why : Int) != 0) = false := by simp; omega
          obtain ⟨A6, c6, rfl, hc6, hm6, hr6⟩ := Own.readsN HOwn.out hl
          have HR6 := kp hr6
          have hm66 : c6 ≤ 9223372036854775807 := by unfold maxLen at hm6; omega
          have HMk : Kept (S.mask l % 4294967296 = m) := kp <| by have h1 := HE.out; rw [if_pos hw] at h1; exact congrArg Prod.fst h1
          have HT : Kept (t = s') := kp <| congrArg Prod.snd HE.out
          clear hw hr6 hm6 hlt
          go_wp2_with (go_at_call 39; go_must (refine (ref_mask _ A6 i c6 l wr HR6.out HL31.out (by omega) m HMk.out).mono ?_); rintro e2 w3 ⟨rfl, rfl⟩)
          go_ret
          exact ⟨rfl, by rw [← HT.out]; exact HRd.out, HGr.out, HRow.out⟩
        · have hwz : ((t.why : Int) != 0) = true := by simp; omega
          have HMk : Kept (0 = m) := kp <| by have h1 := HE.out; rw [if_neg hw] at h1; exact congrArg Prod.fst h1
          have HT : Kept (t = s') := kp <| congrArg Prod.snd HE.out
          clear hw hlt
          go_wp2
          go_ret
          exact ⟨ret_int (by rw [← HMk.out]; rfl), by rw [← HT.out]; exact HRd.out, HGr.out, HRow.out⟩
  · have hcl : R.clip size = 0 := by unfold R.clip; rw [if_pos hc]
    obtain ⟨x0, s0, h0⟩ : ∃ x s1, R.num bs s 0 = (x, s1) := ⟨_, _, rfl⟩
    have hx0 : (x0 : Int) ≤ 0 := by have := R.num_le (bs := bs) (s := s) (most := 0) (by omega); rw [h0] at this; exact this
    have hok0 := R.num_ok HB.out HS.out 0
    rw [h0] at hok0
    have HRes : Kept (R.ids bs (0 - 1) x0 [] s0 = (m, s')) := kp <| by rw [← HX.out]; unfold R.set; rw [hcl, h0]
    have H0 := kp h0; have HOk0 := kp hok0.1
    clear h0 hok0 hcl
    go_enter Tryd.func23, Tryd.ntmps23
    go_wp2_with (go_at_call 18; go_must (refine (rd_num g B A n c bs s HS.out 0 x0 s0 H0.out w HK.out HR.out HB.out hnc HM.out hBg hBw).mono ?_); rintro e2 w2 ⟨rfl, hk2, hg2, hr2⟩; have HK2 := kp hk2; have HG2 := kp hg2; have HR2 := kp hr2; clear hk2 hg2 hr2)
    go_loopw [6, 7] (fun v6 v7 wr => ∃ (i : Nat) (l : List Nat) (t : R.St), i ≤ x0 ∧ v7 = .int .i64 i ∧ l.length = i ∧ R.ids bs (0 - 1) (x0 - i) l t = (m, s') ∧ R.Ok bs t ∧ (∀ y ∈ l, y ≤ 31) ∧ Own wr w.heap.size 3 v6 (l.map natV) ∧ Rd wr g A n c t ∧ w.grownBy wr (some g) ∧ Row byteV wr B A n bs) (fun _ v7 _ => x0 - (intOf v7).toNat)
    case atStart => exact ⟨0, [], s0, by omega, rfl, rfl, HRes.out, HOk0.out, by simp, Own.nil _ _ _, HK2.out, HG2.out, HR2.out⟩
    case round =>
      clear HK2 HG2 HR2 HRes H0 HOk0
      obtain ⟨i, l, t, hi, rfl, hl, hids, hok, hl31, hown, hrd, hgr, hrow⟩ := hrel
      have HIds := kp hids; have HOk := kp hok; have HL31 := kp hl31; have HOwn := kp hown; have HRd := kp hrd; have HGr := kp hgr; have HRow := kp hrow
      obtain ⟨_, hc1, _, hc3, hf1, _, _⟩ := hrd.cells
      have hsz := hgr.size
      have hgr2 : g < wr.heap.size := by omega
      have hlne : ∀ A0 n0 c0, ¬ ((Value.slice A0 n0 c0).ownBlock = some g ∧ w.heap.size ≤ g) := fun _ _ _ h => by omega
      clear hids hok hl31 hown hrd hgr hrow
      by_cases hlt : i < x0
      · exfalso; omega
      · have hxi : x0 - i = 0 := by omega
        have HE : Kept ((if t.why = 0 then S.mask l % 4294967296 else 0, t) = (m, s')) := kp <| by rw [← HIds.out, hxi, R.ids_zero]
        by_cases hw : t.why = 0
        · have hwz : ((t.why : Int) != 0) = false := by simp; omega
          obtain ⟨A6, c6, rfl, hc6, hm6, hr6⟩ := Own.readsN HOwn.out hl
          have HR6 := kp hr6
          have hm66 : c6 ≤ 9223372036854775807 := by unfold maxLen at hm6; omega
          have HMk : Kept (S.mask l % 4294967296 = m) := kp <| by have h1 := HE.out; rw [if_pos hw] at h1; exact congrArg Prod.fst h1
          have HT : Kept (t = s') := kp <| congrArg Prod.snd HE.out
          clear hw hr6 hm6 hlt
          go_wp2_with (go_at_call 39; go_must (refine (ref_mask _ A6 i c6 l wr HR6.out HL31.out (by omega) m HMk.out).mono ?_); rintro e2 w3 ⟨rfl, rfl⟩)
          go_ret
          exact ⟨rfl, by rw [← HT.out]; exact HRd.out, HGr.out, HRow.out⟩
        · have hwz : ((t.why : Int) != 0) = true := by simp; omega
          have HMk : Kept (0 = m) := kp <| by have h1 := HE.out; rw [if_neg hw] at h1; exact congrArg Prod.fst h1
          have HT : Kept (t = s') := kp <| congrArg Prod.snd HE.out
          clear hw hlt
          go_wp2
          go_ret
          exact ⟨ret_int (by rw [← HMk.out]; rfl), by rw [← HT.out]; exact HRd.out, HGr.out, HRow.out⟩
  · have hcl : R.clip size = size := by unfold R.clip; rw [if_neg (by omega), if_neg (by omega)]
    obtain ⟨x0, s0, h0⟩ : ∃ x s1, R.num bs s size = (x, s1) := ⟨_, _, rfl⟩
    have hx0 : (x0 : Int) ≤ size := by have := R.num_le (bs := bs) (s := s) (most := size) (by omega); rw [h0] at this; exact this
    have hok0 := R.num_ok HB.out HS.out size
    rw [h0] at hok0
    have HRes : Kept (R.ids bs (size - 1) x0 [] s0 = (m, s')) := kp <| by rw [← HX.out]; unfold R.set; rw [hcl, h0]
    have H0 := kp h0; have HOk0 := kp hok0.1
    clear h0 hok0 hcl
    go_enter Tryd.func23, Tryd.ntmps23
    go_wp2_with (go_at_call 18; go_must (refine (rd_num g B A n c bs s HS.out size x0 s0 H0.out w HK.out HR.out HB.out hnc HM.out hBg hBw).mono ?_); rintro e2 w2 ⟨rfl, hk2, hg2, hr2⟩; have HK2 := kp hk2; have HG2 := kp hg2; have HR2 := kp hr2; clear hk2 hg2 hr2)
    go_loopw [6, 7] (fun v6 v7 wr => ∃ (i : Nat) (l : List Nat) (t : R.St), i ≤ x0 ∧ v7 = .int .i64 i ∧ l.length = i ∧ R.ids bs (size - 1) (x0 - i) l t = (m, s') ∧ R.Ok bs t ∧ (∀ y ∈ l, y ≤ 31) ∧ Own wr w.heap.size 3 v6 (l.map natV) ∧ Rd wr g A n c t ∧ w.grownBy wr (some g) ∧ Row byteV wr B A n bs) (fun _ v7 _ => x0 - (intOf v7).toNat)
    case atStart => exact ⟨0, [], s0, by omega, rfl, rfl, HRes.out, HOk0.out, by simp, Own.nil _ _ _, HK2.out, HG2.out, HR2.out⟩
    case round =>
      clear HK2 HG2 HR2 HRes H0 HOk0
      obtain ⟨i, l, t, hi, rfl, hl, hids, hok, hl31, hown, hrd, hgr, hrow⟩ := hrel
      have HIds := kp hids; have HOk := kp hok; have HL31 := kp hl31; have HOwn := kp hown; have HRd := kp hrd; have HGr := kp hgr; have HRow := kp hrow
      obtain ⟨_, hc1, _, hc3, hf1, _, _⟩ := hrd.cells
      have hsz := hgr.size
      have hgr2 : g < wr.heap.size := by omega
      have hlne : ∀ A0 n0 c0, ¬ ((Value.slice A0 n0 c0).ownBlock = some g ∧ w.heap.size ≤ g) := fun _ _ _ h => by omega
      clear hids hok hl31 hown hrd hgr hrow
      by_cases hlt : i < x0
      · obtain ⟨y, s1, h1⟩ : ∃ x s1, R.num bs t (size - 1) = (x, s1) := ⟨_, _, rfl⟩
        have hy : (y : Int) ≤ size - 1 := by have := R.num_le (bs := bs) (s := t) (most := size - 1) (by omega); rw [h1] at this; exact this
        have hok1 := R.num_ok HB.out HOk.out (size - 1)
        rw [h1] at hok1
        have HOk1 := kp hok1.1; have H1 := kp h1
        clear hok1 h1
        have hx1 : x0 - i = (x0 - (i + 1)) + 1 := by omega
        obtain ⟨A6, c6, rfl, hc6, hm6, hr6⟩ := Own.readsN HOwn.out hl
        have hm66 : c6 ≤ 9223372036854775807 := by unfold maxLen at hm6; omega
        have HR6 := kp hr6
        have HFar : Kept (∀ w5, wr.grownBy w5 (some g) → Own w5 w.heap.size 3 (.slice A6 i c6) (l.map natV)) := kp fun w5 hg5 => HOwn.out.far hg5 (by
          rcases hob : (Value.slice A6 i c6).ownBlock with _ | b0
          · exact .inl rfl
          · refine .inr ?_
            have := (HOwn.out.block b0 hob).1
            intro e; cases e; omega)
        clear hr6 hm6
        by_cases hw : s1.why = 0
        · have hwz : ((s1.why : Int) != 0) = false := by simp; omega
          have HNum : Kept (∀ w5, wr.grownBy w5 (some g) → Row natV w5 w5.heap.size A6 i l) := kp fun w5 hg5 => by
            obtain ⟨A7, c7, e7, _, _, h7⟩ := Own.readsN (HFar.out w5 hg5) hl
            cases e7
            exact h7
          by_cases hord : l ≠ [] ∧ y ≤ l.getLastD 0
          · have HE : Kept ((0, R.fail ⟨t.at_, s1.wh, s1.why⟩ 5) = (m, s')) := kp <| by rw [← HIds.out, hx1]; exact (R.ids_order H1.out hw hord).symm
            obtain ⟨j, hj⟩ : ∃ j, i = j + 1 := ⟨i - 1, by have := List.length_pos_iff.2 hord.1; omega⟩
            have hlast := R.last_at l j (by omega)
            obtain ⟨la, hla⟩ : ∃ la, l.getLastD 0 = la := ⟨_, rfl⟩
            have hyl : y ≤ la := by rw [← hla]; exact hord.2
            rw [hla] at hlast
            have HLast := kp hlast
            have hi0 : 0 < i := by omega
            clear hord hlast hla
            go_wp2_with (first
             | (go_at_call 18; go_must (refine (rd_num g B A n c bs t HOk.out (size - 1) y s1 H1.out wr HRd.out HRow.out HB.out hnc HM.out hBg (by omega)).mono ?_); rintro e2 w3 ⟨rfl, hk3, hg3, hr3⟩
                have HK3 := kp hk3; have HG3 := kp hg3; have HR3 := kp hr3
                obtain ⟨_, hd1, _, hd3, he1, _, _⟩ := hk3.cells
                obtain ⟨ad, x, rfl, hab, hx, hcx⟩ := (HNum.out w3 hg3).get (k := j) (by omega)
                rw [HLast.out] at hx
                cases hx
                rw [natV_def] at hcx
                clear hk3 hg3 hr3 hc1 hc3 hf1)
             | (go_at_call 26; go_must (refine (rd_fail g _ n c ⟨t.at_, s1.wh, s1.why⟩ 5 _ rfl _ (show Rd _ g _ n c ⟨t.at_, s1.wh, s1.why⟩ from HK3.out.set 1 _)).mono ?_); rintro e4 w4 ⟨rfl, hk4, hg4⟩; have HK4 := kp hk4; have HG4 := kp hg4; clear hk4 hg4))
            go_ret
            have h1 := HE.out
            cases h1
            exact ⟨rfl, HK4.out, grown_trans HGr.out (grown_trans (grown_set HG3.out) HG4.out), (HR3.out.turned (grown_set (g := g) (grown_refl _ _)) (by have := HG3.out.size; omega) hBg).turned HG4.out (by simp; have := HG3.out.size; omega) hBg⟩
          · have HIn : Kept (R.ids bs (size - 1) (x0 - (i + 1)) (l ++ [y]) s1 = (m, s')) := kp <| by rw [← HIds.out, hx1]; exact (R.ids_on H1.out hw hord).symm
            have hy31 : y ≤ 31 := by omega
            by_cases hi0 : 0 < i
            · obtain ⟨j, rfl⟩ : ∃ j, i = j + 1 := ⟨i - 1, by omega⟩
              have hlast := R.last_at l j (by omega)
              obtain ⟨la, hla⟩ : ∃ la, l.getLastD 0 = la := ⟨_, rfl⟩
              have hyl : la < y := by
                rw [hla] at hord
                have hne : l ≠ [] := by intro e; rw [e] at hl; simp at hl
                exact Nat.lt_of_not_le fun h => hord ⟨hne, h⟩
              rw [hla] at hlast
              have HLast := kp hlast
              clear hord hlast hla
              go_wp2_with (first
               | (go_at_call 18; go_must (refine (rd_num g B A n c bs t HOk.out (size - 1) y s1 H1.out wr HRd.out HRow.out HB.out hnc HM.out hBg (by omega)).mono ?_); rintro e2 w3 ⟨rfl, hk3, hg3, hr3⟩
                  have HK3 := kp hk3; have HG3 := kp hg3; have HR3 := kp hr3
                  obtain ⟨_, hd1, _, hd3, he1, _, _⟩ := hk3.cells
                  have HO3 := kp (HFar.out w3 hg3)
                  have hB3 : w.heap.size ≤ w3.heap.size := Nat.le_trans hsz hg3.size
                  obtain ⟨ad, x, rfl, hab, hx, hcx⟩ := (HNum.out w3 hg3).get (k := j) (by omega)
                  rw [HLast.out] at hx
                  cases hx
                  rw [natV_def] at hcx
                  clear hk3 hg3 hr3 hc1 hc3 hf1)
               | (at_builtin; go_must (refine wpList_append_one rfl (.tmp 52) (.tmp 54) 56 rfl w.heap.size 3 _ _ Tryd.underlying56 int_info rfl _ _ _ _ rfl HO3.out _ 1 rfl rfl rfl (by simp [maxLen]; omega) (by simp; omega) hB3 ?_); intro v1 w5 hown1 hg1; have HO5 := kp hown1; clear hown1; have HG5 := kp hg1; clear hg1))
              go_roundw
              case rel => exact ⟨j + 1 + 1, l ++ [y], s1, by omega, by go_num, by simp; omega, HIn.out, HOk1.out, by intro z hz; rcases List.mem_append.1 hz with hz | hz; exact HL31.out z hz; rw [List.mem_singleton] at hz; omega, by rw [List.map_append]; exact HO5.out, rd_far HK3.out HO3.out HG5.out.1 hgs, rd_grew (grown_trans HGr.out HG3.out) HO3.out HG5.out.1, row_far HR3.out HO3.out HG5.out.1 hBw hB3⟩
              case measure => simp [intOf]; omega
            · have hi00 : decide (0 < (i : Int)) = false := by simpa using hi0
              clear hord
              go_wp2_with (first
               | (go_at_call 18; go_must (refine (rd_num g B A n c bs t HOk.out (size - 1) y s1 H1.out wr HRd.out HRow.out HB.out hnc HM.out hBg (by omega)).mono ?_); rintro e2 w3 ⟨rfl, hk3, hg3, hr3⟩
                  have HK3 := kp hk3; have HG3 := kp hg3; have HR3 := kp hr3
                  obtain ⟨_, hd1, _, hd3, he1, _, _⟩ := hk3.cells
                  have HO3 := kp (HFar.out w3 hg3)
                  have hB3 : w.heap.size ≤ w3.heap.size := Nat.le_trans hsz hg3.size
                  clear hk3 hg3 hr3 hc1 hc3 hf1)
               | (at_builtin; go_must (refine wpList_append_one rfl (.tmp 52) (.tmp 54) 56 rfl w.heap.size 3 _ _ Tryd.underlying56 int_info rfl _ _ _ _ rfl HO3.out _ 1 rfl rfl rfl (by simp [maxLen]; omega) (by simp; omega) hB3 ?_); intro v1 w5 hown1 hg1; have HO5 := kp hown1; clear hown1; have HG5 := kp hg1; clear hg1))
              go_roundw
              case rel => exact ⟨i + 1, l ++ [y], s1, by omega, by go_num, by simp; omega, HIn.out, HOk1.out, by intro z hz; rcases List.mem_append.1 hz with hz | hz; exact HL31.out z hz; rw [List.mem_singleton] at hz; omega, by rw [List.map_append]; exact HO5.out, rd_far HK3.out HO3.out HG5.out.1 hgs, rd_grew (grown_trans HGr.out HG3.out) HO3.out HG5.out.1, row_far HR3.out HO3.out HG5.out.1 hBw hB3⟩
              case measure => simp [intOf]; omega
        · have hwz : ((s1.why : Int) != 0) = true := by simp; omega
          have HE : Kept ((0, s1) = (m, s')) := kp <| by rw [← HIds.out, hx1]; exact (R.ids_bad H1.out hw).symm
          clear hw
          go_wp2_with (first
           | (go_at_call 18; go_must (refine (rd_num g B A n c bs t HOk.out (size - 1) y s1 H1.out wr HRd.out HRow.out HB.out hnc HM.out hBg (by omega)).mono ?_); rintro e2 w3 ⟨rfl, hk3, hg3, hr3⟩
              have HK3 := kp hk3; have HG3 := kp hg3; have HR3 := kp hr3
              obtain ⟨_, hd1, _, hd3, he1, _, _⟩ := hk3.cells
              clear hk3 hg3 hr3 hc1 hc3 hf1))
          go_ret
          have h1 := HE.out
          cases h1
          exact ⟨rfl, HK3.out, grown_trans HGr.out HG3.out, HR3.out⟩
      · have hxi : x0 - i = 0 := by omega
        have HE : Kept ((if t.why = 0 then S.mask l % 4294967296 else 0, t) = (m, s')) := kp <| by rw [← HIds.out, hxi, R.ids_zero]
        by_cases hw : t.why = 0
        · have hwz : ((t.why : Int) != 0) = false := by simp; omega
          obtain ⟨A6, c6, rfl, hc6, hm6, hr6⟩ := Own.readsN HOwn.out hl
          have HR6 := kp hr6
          have hm66 : c6 ≤ 9223372036854775807 := by unfold maxLen at hm6; omega
          have HMk : Kept (S.mask l % 4294967296 = m) := kp <| by have h1 := HE.out; rw [if_pos hw] at h1; exact congrArg Prod.fst h1
          have HT : Kept (t = s') := kp <| congrArg Prod.snd HE.out
          clear hw hr6 hm6 hlt
          go_wp2_with (go_at_call 39; go_must (refine (ref_mask _ A6 i c6 l wr HR6.out HL31.out (by omega) m HMk.out).mono ?_); rintro e2 w3 ⟨rfl, rfl⟩)
          go_ret
          exact ⟨rfl, by rw [← HT.out]; exact HRd.out, HGr.out, HRow.out⟩
        · have hwz : ((t.why : Int) != 0) = true := by simp; omega
          have HMk : Kept (0 = m) := kp <| by have h1 := HE.out; rw [if_neg hw] at h1; exact congrArg Prod.fst h1
          have HT : Kept (t = s') := kp <| congrArg Prod.snd HE.out
          clear hw hlt
          go_wp2
          go_ret
          exact ⟨ret_int (by rw [← HMk.out]; rfl), by rw [← HT.out]; exact HRd.out, HGr.out, HRow.out⟩
end Go.Proofs.YtgdnimhhhllgaaaDoor
