/- What a call reads, as text (the statement's own 'read'), walked. -/
import Derived.Test.YtgdnimhhhllgaaaDoorWireLaw2
namespace Go.Proofs.YtgdnimhhhllgaaaDoor
open Go.RowKit

theorem R.set_why {bs : List Nat} {s : R.St} (h : s.why ≠ 0) (size : Int) : R.set bs s size = (0, s) := by
  unfold R.set
  rw [R.num_why h]
  show R.ids bs _ 0 [] s = _
  rw [R.ids_zero, if_neg h]
theorem R.raw_why {bs : List Nat} {s : R.St} (h : s.why ≠ 0) (n : Int) : R.raw bs s n = ([], s) := by
  unfold R.raw; rw [if_neg h]
theorem ret_str {a b : List Nat} (h : a = b) : Ending.returned (.string (strOf a)) = Ending.returned (.string (strOf b)) := by rw [h]
theorem strOf_nil : strOf [] = ⟨#[]⟩ := rfl

/-- What is read as text, and where the reader stands then. -/
def R.textSt (bs : List Nat) (s : R.St) (x : Item) : List Nat × R.St :=
  if x.do_ % 4 = 0 then ((if (R.num bs s x.n).1 = 0 then [] else V.put (R.num bs s x.n).1), (R.num bs s x.n).2)
  else if x.do_ % 4 = 1 then R.raw bs s x.n
  else if x.do_ % 4 = 2 then R.raw bs (R.num bs s x.n).2 (R.num bs s x.n).1
  else ((if (R.set bs s x.n).1 = 0 then [] else V.put (R.set bs s x.n).1), (R.set bs s x.n).2)
theorem R.text_ok {bs : List Nat} (hb : ∀ x ∈ bs, x < 256) {s : R.St} (h : R.Ok bs s) (x : Item) : R.Ok bs (R.textSt bs s x).2 := by
  unfold R.textSt
  split
  · exact (R.num_ok hb h _).1
  · split
    · exact R.raw_ok h _
    · split
      · exact R.raw_ok (R.num_ok hb h _).1 _
      · exact (R.set_ok hb h _).1
theorem R.text_fit {bs : List Nat} {s : R.St} (h : R.Fit s) (x : Item) : R.Fit (R.textSt bs s x).2 := by
  unfold R.textSt
  split
  · exact R.num_fit bs h _
  · split
    · exact R.raw_fit bs h _
    · split
      · exact R.raw_fit bs (R.num_fit bs h _) _
      · exact R.set_fit bs h _
theorem R.text_why {bs : List Nat} {s : R.St} (h : s.why ≠ 0) (x : Item) : R.textSt bs s x = ([], s) := by
  unfold R.textSt
  rw [R.num_why h, R.set_why h, R.raw_why h]
  simp only
  rw [R.raw_why h]
  split
  · rfl
  · split
    · rfl
    · split <;> rfl

theorem set_lt {bs : List Nat} (hb : ∀ x ∈ bs, x < 256) {s : R.St} (h : R.Ok bs s) (size : Int) : (R.set bs s size).1 < 4294967296 := (R.set_ok hb h size).2

set_option maxRecDepth 100000 in
set_option maxHeartbeats 4000000 in
theorem read_any (g B : Nat) (A : Option Addr) (n c : Nat) (bs : List Nat) (s : R.St) (hs : R.Ok bs s) (x : Item) (hd : x.do_ < 256) (hn64 : -9223372036854775808 ≤ x.n ∧ x.n ≤ 9223372036854775807) (out : List Nat) (s' : R.St) (hx : R.textSt bs s x = (out, s')) (w : World) (hk : Pd w g A n c s)
    (hr : Row byteV w B A n bs) (hb : ∀ x ∈ bs, x < 256) (hn : n ≤ 1000000) (hnc : n ≤ c) (hm : c ≤ maxLen) (hBg : B ≤ g) (hBw : B ≤ w.heap.size) :
    Calls Tryd.prog 28 #[.pointer (some ⟨g, 0, none⟩), .agg (itemC x).toArray] w fun r w' => r = .returned (.string (strOf out)) ∧ Pd w' g A n c s' ∧ w.grownBy w' (some g) ∧ Row byteV w' B A n bs := by
  obtain ⟨hn1, hn2⟩ := hn64
  have HK := kp hk; have HR := kp hr; have HB := kp hb; have HS := kp hs; have HM := kp hm; have HX := kp hx
  have hgs := hk.lt
  clear hk hr hb hs hm hx
  have h4 : x.do_ % 4 = 0 ∨ x.do_ % 4 = 1 ∨ x.do_ % 4 = 2 ∨ x.do_ % 4 = 3 := by omega
  rcases h4 with h4 | h4 | h4 | h4
  · have h4' : (x.do_ : Int) % 4 = 0 := by omega
    obtain ⟨y, s1, h1⟩ : ∃ y s1, R.num bs s x.n = (y, s1) := ⟨_, _, rfl⟩
    have hlt : y < 4294967296 := by have := (R.num_ok HB.out HS.out x.n).2; rw [h1] at this; exact this
    have HE : Kept (((if y = 0 then [] else V.put y), s1) = (out, s')) := kp <| by rw [← HX.out]; unfold R.textSt; rw [if_pos h4, h1]
    have H1 := kp h1
    clear h1 h4
    by_cases hy : y = 0
    · have HE2 : Kept (([], s1) = (out, s')) := kp <| by rw [← HE.out, if_pos hy]
      go_enter Tryd.func28, Tryd.ntmps28
      go_wp2_with (first
        | ((with_reducible refine wpList_box_agg rfl 30 (.tmp 1) rfl (itemC x) rfl ?_); intro g2 w2 hg2 hk2 hw2; obtain ⟨hc0, hc1, hc2, hc3⟩ := item_cells hk2
           have HK2 : Kept (Pd w2 g A n c s) := kp (Blk.below HK.out hw2 hgs)
           have HW2 := kp hw2; have hz2 := hw2.size; have HR2 := kp (HR.out.below (hw2.mono hBw)); clear hk2 hw2)
        | (go_at_call 17; go_must (refine (pd_num g B A n c bs s HS.out x.n y s1 H1.out w2 HK2.out HR2.out HB.out hnc HM.out hBg (by omega)).mono ?_); rintro e w3 ⟨rfl, hk3, hg3, hr3⟩; have HK3 := kp hk3; have HG3 := kp hg3; have HR3 := kp hr3; clear hk3 hg3 hr3))
      go_ret
      have h1 := HE2.out
      cases h1
      exact ⟨rfl, HK3.out, grown_trans (grown_of_below HW2.out _) HG3.out, HR3.out⟩
    · have HE2 : Kept ((V.put y, s1) = (out, s')) := kp <| by rw [← HE.out, if_neg hy]
      have hy0 : ((y : Int) == 0) = false := by simpa using hy
      go_enter Tryd.func28, Tryd.ntmps28
      go_wp2_with (first
        | ((with_reducible refine wpList_box_agg rfl 30 (.tmp 1) rfl (itemC x) rfl ?_); intro g2 w2 hg2 hk2 hw2; obtain ⟨hc0, hc1, hc2, hc3⟩ := item_cells hk2
           have HK2 : Kept (Pd w2 g A n c s) := kp (Blk.below HK.out hw2 hgs)
           have HW2 := kp hw2; have hz2 := hw2.size; have HR2 := kp (HR.out.below (hw2.mono hBw)); clear hk2 hw2)
        | (go_at_call 17; go_must (refine (pd_num g B A n c bs s HS.out x.n y s1 H1.out w2 HK2.out HR2.out HB.out hnc HM.out hBg (by omega)).mono ?_); rintro e w3 ⟨rfl, hk3, hg3, hr3⟩; have HK3 := kp hk3; have HG3 := kp hg3; have HR3 := kp hr3; have hz3 := hg3.size; clear hk3 hg3 hr3)
        | (go_at_call 10; go_must (refine (ref_put y hlt w3).mono ?_); rintro e w4 ⟨v4, rfl, hown4, hb4⟩
           obtain ⟨A4, c4, rfl, hc4, hm4, hr4⟩ := hown4.bytes
           have hs4 := cv (c := c4) hr4
           have HB4 := kp hb4
           clear hown4 hm4 hr4 hb4))
      go_ret
      have h1 := HE2.out
      cases h1
      exact ⟨rfl, Blk.below HK3.out HB4.out HK3.out.lt, grown_trans (grown_of_below HW2.out _) (grown_below HG3.out HB4.out), HR3.out.below (HB4.out.mono (by omega))⟩
  · have h4' : (x.do_ : Int) % 4 = 1 := by omega
    have HE : Kept (R.raw bs s x.n = (out, s')) := kp <| by rw [← HX.out]; unfold R.textSt; rw [if_neg (by omega), if_pos h4]
    clear h4
    go_enter Tryd.func28, Tryd.ntmps28
    go_wp2_with (first
      | ((with_reducible refine wpList_box_agg rfl 30 (.tmp 1) rfl (itemC x) rfl ?_); intro g2 w2 hg2 hk2 hw2; obtain ⟨hc0, hc1, hc2, hc3⟩ := item_cells hk2
         have HK2 : Kept (Pd w2 g A n c s) := kp (Blk.below HK.out hw2 hgs)
         have HW2 := kp hw2; have hz2 := hw2.size; have HR2 := kp (HR.out.below (hw2.mono hBw)); clear hk2 hw2)
      | (go_at_call 19; go_must (refine (pd_raw g B A n c bs s HS.out x.n out s' HE.out w2 HK2.out HR2.out hn hnc hBg (by omega)).mono ?_); rintro e w3 ⟨v3, rfl, hown3, hk3, hg3, hr3⟩; have HK3 := kp hk3; have HG3 := kp hg3; have HR3 := kp hr3
         obtain ⟨A4, c4, rfl, hc4, hm4, hr4⟩ := hown3.bytes
         have hs4 := cv (c := c4) hr4
         clear hown3 hk3 hg3 hr3 hm4 hr4))
    go_ret
    exact ⟨rfl, HK3.out, grown_trans (grown_of_below HW2.out _) HG3.out, HR3.out⟩
  · have h4' : (x.do_ : Int) % 4 = 2 := by omega
    obtain ⟨y, s1, h1⟩ : ∃ y s1, R.num bs s x.n = (y, s1) := ⟨_, _, rfl⟩
    have HE : Kept (R.raw bs s1 (y : Int) = (out, s')) := kp <| by rw [← HX.out]; unfold R.textSt; rw [if_neg (by omega), if_neg (by omega), if_pos h4, h1]
    have H1 := kp h1
    clear h4 h1
    go_enter Tryd.func28, Tryd.ntmps28
    go_wp2_with (first
      | ((with_reducible refine wpList_box_agg rfl 30 (.tmp 1) rfl (itemC x) rfl ?_); intro g2 w2 hg2 hk2 hw2; obtain ⟨hc0, hc1, hc2, hc3⟩ := item_cells hk2
         have HK2 : Kept (Pd w2 g A n c s) := kp (Blk.below HK.out hw2 hgs)
         have HW2 := kp hw2; have hz2 := hw2.size; have HR2 := kp (HR.out.below (hw2.mono hBw)); clear hk2 hw2)
      | (go_at_call 21; go_must (refine (pd_block g B A n c bs s HS.out x.n y s1 H1.out out s' HE.out w2 HK2.out HR2.out HB.out hn hnc HM.out hBg (by omega)).mono ?_); rintro e w3 ⟨v3, rfl, hown3, hk3, hg3, hr3⟩; have HK3 := kp hk3; have HG3 := kp hg3; have HR3 := kp hr3
         obtain ⟨A4, c4, rfl, hc4, hm4, hr4⟩ := hown3.bytes
         have hs4 := cv (c := c4) hr4
         clear hown3 hk3 hg3 hr3 hm4 hr4))
    go_ret
    exact ⟨rfl, HK3.out, grown_trans (grown_of_below HW2.out _) HG3.out, HR3.out⟩
  · have h4' : (x.do_ : Int) % 4 = 3 := by omega
    obtain ⟨y, s1, h1⟩ : ∃ y s1, R.set bs s x.n = (y, s1) := ⟨_, _, rfl⟩
    have hlt : y < 4294967296 := by have := (R.set_ok HB.out HS.out x.n).2; rw [h1] at this; exact this
    have HE : Kept (((if y = 0 then [] else V.put y), s1) = (out, s')) := kp <| by rw [← HX.out]; unfold R.textSt; rw [if_neg (show ¬ x.do_ % 4 = 0 by omega), if_neg (show ¬ x.do_ % 4 = 1 by omega), if_neg (show ¬ x.do_ % 4 = 2 by omega), h1]
    have H1 := kp h1
    clear h1 h4
    by_cases hy : y = 0
    · have HE2 : Kept (([], s1) = (out, s')) := kp <| by rw [← HE.out, if_pos hy]
      go_enter Tryd.func28, Tryd.ntmps28
      go_wp2_with (first
        | ((with_reducible refine wpList_box_agg rfl 30 (.tmp 1) rfl (itemC x) rfl ?_); intro g2 w2 hg2 hk2 hw2; obtain ⟨hc0, hc1, hc2, hc3⟩ := item_cells hk2
           have HK2 : Kept (Pd w2 g A n c s) := kp (Blk.below HK.out hw2 hgs)
           have HW2 := kp hw2; have hz2 := hw2.size; have HR2 := kp (HR.out.below (hw2.mono hBw)); clear hk2 hw2)
        | (go_at_call 22; go_must (refine (pd_set g B A n c bs s HS.out x.n ⟨hn1, hn2⟩ y s1 H1.out w2 HK2.out HR2.out HB.out hnc HM.out hBg (by omega)).mono ?_); rintro e w3 ⟨rfl, hk3, hg3, hr3⟩; have HK3 := kp hk3; have HG3 := kp hg3; have HR3 := kp hr3; clear hk3 hg3 hr3))
      go_ret
      have h1 := HE2.out
      cases h1
      exact ⟨rfl, HK3.out, grown_trans (grown_of_below HW2.out _) HG3.out, HR3.out⟩
    · have HE2 : Kept ((V.put y, s1) = (out, s')) := kp <| by rw [← HE.out, if_neg hy]
      have hy0 : ((y : Int) == 0) = false := by simpa using hy
      go_enter Tryd.func28, Tryd.ntmps28
      go_wp2_with (first
        | ((with_reducible refine wpList_box_agg rfl 30 (.tmp 1) rfl (itemC x) rfl ?_); intro g2 w2 hg2 hk2 hw2; obtain ⟨hc0, hc1, hc2, hc3⟩ := item_cells hk2
           have HK2 : Kept (Pd w2 g A n c s) := kp (Blk.below HK.out hw2 hgs)
           have HW2 := kp hw2; have hz2 := hw2.size; have HR2 := kp (HR.out.below (hw2.mono hBw)); clear hk2 hw2)
        | (go_at_call 22; go_must (refine (pd_set g B A n c bs s HS.out x.n ⟨hn1, hn2⟩ y s1 H1.out w2 HK2.out HR2.out HB.out hnc HM.out hBg (by omega)).mono ?_); rintro e w3 ⟨rfl, hk3, hg3, hr3⟩; have HK3 := kp hk3; have HG3 := kp hg3; have HR3 := kp hr3; have hz3 := hg3.size; clear hk3 hg3 hr3)
        | (go_at_call 10; go_must (refine (ref_put y hlt w3).mono ?_); rintro e w4 ⟨v4, rfl, hown4, hb4⟩
           obtain ⟨A4, c4, rfl, hc4, hm4, hr4⟩ := hown4.bytes
           have hs4 := cv (c := c4) hr4
           have HB4 := kp hb4
           clear hown4 hm4 hr4 hb4))
      go_ret
      have h1 := HE2.out
      cases h1
      exact ⟨rfl, Blk.below HK3.out HB4.out HK3.out.lt, grown_trans (grown_of_below HW2.out _) (grown_below HG3.out HB4.out), HR3.out.below (HB4.out.mono (by omega))⟩
/-- With a fault nothing is read. -/
theorem read_none (g B : Nat) (A : Option Addr) (n c : Nat) (bs : List Nat) (s : R.St) (hs : R.Ok bs s) (hw : s.why ≠ 0) (x : Item) (hd : x.do_ < 256) (hn64 : -9223372036854775808 ≤ x.n ∧ x.n ≤ 9223372036854775807) (w : World) (hk : Pd w g A n c s)
    (hr : Row byteV w B A n bs) (hb : ∀ x ∈ bs, x < 256) (hn : n ≤ 1000000) (hnc : n ≤ c) (hm : c ≤ maxLen) (hBg : B ≤ g) (hBw : B ≤ w.heap.size) :
    Calls Tryd.prog 28 #[.pointer (some ⟨g, 0, none⟩), .agg #[.int .u8 (x.do_ : Int), .int .i64 x.n, .slice x.A x.len x.cap, .int .u32 (x.m : Int)]] w fun r w' => r = .returned (.string ⟨#[]⟩) ∧ Pd w' g A n c s ∧ w.grownBy w' (some g) ∧ Row byteV w' B A n bs :=
  read_any g B A n c bs s hs x hd hn64 [] s (R.text_why hw x) w hk hr hb hn hnc hm hBg hBw
theorem pd_done_b (g : Nat) (A : Option Addr) (n c : Nat) (s : R.St) (w : World) (hk : Pd w g A n c s) (hat : s.at_ ≤ n) (hn : n ≤ 1000000) (s' : R.St) (hs' : (if s.why = 0 ∧ s.at_ < n then R.fail s 7 else s) = s') (b : Bool) (hb : decide (s'.why = 0) = b) :
    Calls Tryd.prog 27 #[.pointer (some ⟨g, 0, none⟩)] w fun r w' => r = .returned (.bool b) ∧ Pd w' g A n c s' ∧ w.grownBy w' (some g) := by
  have h := pd_done g A n c s w hk hat hn s' hs'
  rw [hb] at h
  exact h
theorem spot_cells {w : World} {g : Nat} {x y : Int} (h : Blk w g 46 [.int .i64 x, .int .i64 y]) : w.cell? ⟨g, 0, none⟩ = some (.int .i64 x) ∧ w.cell? ⟨g, 1, none⟩ = some (.int .i64 y) := ⟨h.cell 0, h.cell 1⟩
end Go.Proofs.YtgdnimhhhllgaaaDoor
