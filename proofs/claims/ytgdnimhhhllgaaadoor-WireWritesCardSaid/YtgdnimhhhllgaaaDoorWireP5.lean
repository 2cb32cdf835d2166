/- The program's reader, walked: Block, Done, idAbove, Set. -/
import Derived.Test.YtgdnimhhhllgaaaDoorWireP4
import Derived.Test.YtgdnimhhhllgaaaDoorSetP3
namespace Go.Proofs.YtgdnimhhhllgaaaDoor
open Go.RowKit

set_option maxRecDepth 100000 in
set_option maxHeartbeats 800000 in
theorem pd_block (g B : Nat) (A : Option Addr) (n c : Nat) (bs : List Nat) (s : R.St) (hs : R.Ok bs s) (most : Int) (x : Nat) (s1 : R.St) (hx : R.num bs s most = (x, s1)) (out : List Nat) (s' : R.St) (ho : R.raw bs s1 x = (out, s')) (w : World) (hk : Pd w g A n c s)
    (hr : Row byteV w B A n bs) (hb : ∀ x ∈ bs, x < 256) (hn : n ≤ 1000000) (hnc : n ≤ c) (hm : c ≤ maxLen) (hBg : B ≤ g) (hBw : B ≤ w.heap.size) :
    Calls Tryd.prog 21 #[.pointer (some ⟨g, 0, none⟩), .int .i64 most] w fun r w' => ∃ v, r = .returned v ∧ Own w' w.heap.size 5 v (out.map byteV) ∧ Pd w' g A n c s' ∧ w.grownBy w' (some g) ∧ Row byteV w' B A n bs := by
  have HK := kp hk; have HR := kp hr; have HB := kp hb; have HS := kp hs; have HX := kp hx; have HM := kp hm; have HOut := kp ho
  have hok1 := R.num_ok hb hs most
  rw [hx] at hok1
  have HOk1 := kp hok1.1
  clear hk hr hb hs hx hm hok1 ho
  go_enter Tryd.func21, Tryd.ntmps21
  go_wp2_with (first
    | (go_at_call 17; go_must (refine (pd_num g B A n c bs s HS.out most x s1 HX.out w HK.out HR.out HB.out hnc HM.out hBg hBw).mono ?_); rintro e w1 ⟨rfl, hk1, hg1, hr1⟩; have HK1 := kp hk1; have HG1 := kp hg1; have HR1 := kp hr1; have hsz1 := hg1.size; clear hk1 hg1 hr1)
    | (go_at_call 19; go_must (refine (pd_raw g B A n c bs s1 HOk1.out (x : Int) out s' HOut.out w1 HK1.out HR1.out hn hnc hBg (by omega)).mono ?_); rintro e w2 ⟨v, rfl, hown, hk2, hg2, hr2⟩; have HO2 := kp hown; have HK2 := kp hk2; have HG2 := kp hg2; have HR2 := kp hr2; clear hk2 hg2 hr2 hown))
  go_ret
  exact ⟨_, rfl, HO2.out.less (by omega), HK2.out, grown_trans HG1.out HG2.out, HR2.out⟩

set_option maxRecDepth 100000 in
set_option maxHeartbeats 800000 in
theorem pd_done (g : Nat) (A : Option Addr) (n c : Nat) (s : R.St) (w : World) (hk : Pd w g A n c s) (hat : s.at_ ≤ n) (hn : n ≤ 1000000) (s' : R.St) (hs' : (if s.why = 0 ∧ s.at_ < n then R.fail s 7 else s) = s') :
    Calls Tryd.prog 27 #[.pointer (some ⟨g, 0, none⟩)] w fun r w' => r = .returned (.bool (decide (s'.why = 0))) ∧ Pd w' g A n c s' ∧ w.grownBy w' (some g) := by
  obtain ⟨hc0, hc1, hc2, hf1, hf2⟩ := hk.cells
  have HK := kp hk; have HX := kp hs'
  have hgs := hk.lt
  clear hk hs'
  obtain ⟨at_, wh, why⟩ := s
  simp only at *
  by_cases h : why = 0
  · have hz : ((why : Int) == 0) = true := by simp; omega
    by_cases hlt : at_ < n
    · have HE : Kept (⟨at_, at_, 7⟩ = s') := kp <| by rw [← HX.out, if_pos ⟨h, hlt⟩]; unfold R.fail; rw [if_pos h]
      clear h
      go_enter Tryd.func27, Tryd.ntmps27
      go_wp2_with (first
        | (go_at_call 25; go_must (refine (pd_left g A n c ⟨at_, wh, why⟩ w HK.out hat hn).mono ?_); rintro r w1 ⟨rfl, j, hw1⟩
           have HK1 : Kept (Pd w1 g A n c ⟨at_, wh, why⟩) := kp (by rw [hw1]; exact HK.out)
           have HG1 : Kept (w.grownBy w1 (some g)) := kp (by rw [hw1]; exact grown_drews (grown_refl _ _) _)
           obtain ⟨hd0, hd1, hd2, he1, he2⟩ := HK1.out.cells
           clear hw1 hc0 hc1 hc2 hf1 hf2))
      go_ret
      have h1 := HE.out
      subst h1
      exact ⟨rfl, HK1.out.set 2 _, grown_set HG1.out⟩
    · have HE : Kept (⟨at_, wh, why⟩ = s') := kp <| by rw [← HX.out, if_neg (fun h1 => hlt h1.2)]
      have h' := h
      clear h
      have hge : n - at_ = 0 := by omega
      go_enter Tryd.func27, Tryd.ntmps27
      go_wp2_with (first
        | (go_at_call 25; go_must (refine (pd_left g A n c ⟨at_, wh, why⟩ w HK.out hat hn).mono ?_); rintro r w1 ⟨rfl, j, hw1⟩
           have HK1 : Kept (Pd w1 g A n c ⟨at_, wh, why⟩) := kp (by rw [hw1]; exact HK.out)
           have HG1 : Kept (w.grownBy w1 (some g)) := kp (by rw [hw1]; exact grown_drews (grown_refl _ _) _)
           obtain ⟨hd0, hd1, hd2, he1, he2⟩ := HK1.out.cells
           clear hw1 hc0 hc1 hc2 hf1 hf2))
      go_ret
      have h1 := HE.out
      subst h1
      exact ⟨ret_bool (by rw [decide_eq_true h']), HK1.out, HG1.out⟩
  · have hz : ((why : Int) == 0) = false := by simp; omega
    have HE : Kept (⟨at_, wh, why⟩ = s') := kp <| by rw [← HX.out, if_neg (fun h1 => h h1.1)]
    have HW := kp h
    clear h
    go_enter Tryd.func27, Tryd.ntmps27
    go_wp2
    go_ret
    have h1 := HE.out
    subst h1
    exact ⟨ret_bool (by rw [decide_eq_false HW.out]), HK.out, grown_refl _ _⟩

set_option maxRecDepth 100000 in
set_option maxHeartbeats 800000 in
theorem pd_done_why (g : Nat) (A : Option Addr) (n c : Nat) (s : R.St) (w : World) (hk : Pd w g A n c s) (h : s.why ≠ 0) :
    Calls Tryd.prog 27 #[.pointer (some ⟨g, 0, none⟩)] w fun r w' => r = .returned (.bool false) ∧ w = w' := by
  obtain ⟨hc0, hc1, hc2, hf1, hf2⟩ := hk.cells
  have hz : ((s.why : Int) == 0) = false := by simp; omega
  clear hk h
  go_enter Tryd.func27, Tryd.ntmps27
  go_wp2
  go_ret
  exact ⟨rfl, rfl⟩

/-- Where a reader stands when an id has to be above one. -/
def R.above (s s1 : R.St) (x : Nat) (last : Int) : R.St := if s1.why = 0 ∧ (x : Int) ≤ last then ⟨s.at_, s.at_, 5⟩ else s1

set_option maxRecDepth 100000 in
set_option maxHeartbeats 800000 in
theorem pd_above (g B : Nat) (A : Option Addr) (n c : Nat) (bs : List Nat) (s : R.St) (hs : R.Ok bs s) (last most : Int) (x : Nat) (s1 : R.St) (hx : R.num bs s most = (x, s1)) (s' : R.St) (hs' : R.above s s1 x last = s') (w : World) (hk : Pd w g A n c s)
    (hr : Row byteV w B A n bs) (hb : ∀ x ∈ bs, x < 256) (hnc : n ≤ c) (hm : c ≤ maxLen) (hBg : B ≤ g) (hBw : B ≤ w.heap.size) :
    Calls Tryd.prog 37 #[.pointer (some ⟨g, 0, none⟩), .int .i64 last, .int .i64 most] w fun r w' => r = .returned (.int .i64 (x : Int)) ∧ Pd w' g A n c s' ∧ w.grownBy w' (some g) ∧ Row byteV w' B A n bs := by
  obtain ⟨hc0, hc1, hc2, hf1, hf2⟩ := hk.cells
  have HK := kp hk; have HR := kp hr; have HB := kp hb; have HS := kp hs; have HX := kp hx; have HM := kp hm; have HA := kp hs'
  have hgs := hk.lt
  clear hk hr hb hs hx hm hs'
  by_cases h : s1.why = 0
  · have hz : ((s1.why : Int) == 0) = true := by simp; omega
    by_cases hle : (x : Int) ≤ last
    · have HE : Kept (⟨s.at_, s.at_, 5⟩ = s') := kp <| by rw [← HA.out]; unfold R.above; rw [if_pos ⟨h, hle⟩]
      clear h
      go_enter Tryd.func37, Tryd.ntmps37
      go_wp2_with (first
        | (go_at_call 17; go_must (refine (pd_num g B A n c bs s HS.out most x s1 HX.out w HK.out HR.out HB.out hnc HM.out hBg hBw).mono ?_); rintro e w1 ⟨rfl, hk1, hg1, hr1⟩
           obtain ⟨hd0, hd1, hd2, he1, he2⟩ := hk1.cells
           have HK1 := kp hk1; have HG1 := kp hg1; have HR1 := kp hr1; have hsz1 := hg1.size; clear hk1 hg1 hr1 hc0 hc1 hc2 hf1 hf2))
      go_ret
      have h1 := HE.out
      subst h1
      exact ⟨rfl, (HK1.out.set 1 _).set 2 _, grown_set (grown_set HG1.out), HR1.out.turned (grown_set (grown_set (grown_refl _ _))) (by omega) hBg⟩
    · have HE : Kept (s1 = s') := kp <| by rw [← HA.out]; unfold R.above; rw [if_neg (fun h1 => hle h1.2)]
      clear h
      go_enter Tryd.func37, Tryd.ntmps37
      go_wp2_with (first
        | (go_at_call 17; go_must (refine (pd_num g B A n c bs s HS.out most x s1 HX.out w HK.out HR.out HB.out hnc HM.out hBg hBw).mono ?_); rintro e w1 ⟨rfl, hk1, hg1, hr1⟩
           obtain ⟨hd0, hd1, hd2, he1, he2⟩ := hk1.cells
           have HK1 := kp hk1; have HG1 := kp hg1; have HR1 := kp hr1; have hsz1 := hg1.size; clear hk1 hg1 hr1 hc0 hc1 hc2 hf1 hf2))
      go_ret
      have h1 := HE.out
      subst h1
      exact ⟨rfl, HK1.out, HG1.out, HR1.out⟩
  · have hz : ((s1.why : Int) == 0) = false := by simp; omega
    have HE : Kept (s1 = s') := kp <| by rw [← HA.out]; unfold R.above; rw [if_neg (fun h1 => h h1.1)]
    clear h
    go_enter Tryd.func37, Tryd.ntmps37
    go_wp2_with (first
      | (go_at_call 17; go_must (refine (pd_num g B A n c bs s HS.out most x s1 HX.out w HK.out HR.out HB.out hnc HM.out hBg hBw).mono ?_); rintro e w1 ⟨rfl, hk1, hg1, hr1⟩
         obtain ⟨hd0, hd1, hd2, he1, he2⟩ := hk1.cells
         have HK1 := kp hk1; have HG1 := kp hg1; have HR1 := kp hr1; have hsz1 := hg1.size; clear hk1 hg1 hr1 hc0 hc1 hc2 hf1 hf2))
    go_ret
    have h1 := HE.out
    subst h1
    exact ⟨rfl, HK1.out, HG1.out, HR1.out⟩

/-- The last of the ids, -1 ahead of the first. -/
def lastOf (l : List Nat) : Int := if l = [] then -1 else (l.getLastD 0 : Int)
theorem lastOf_nil : lastOf [] = -1 := rfl
theorem lastOf_snoc (l : List Nat) (x : Nat) : lastOf (l ++ [x]) = (x : Int) := by
  unfold lastOf
  rw [if_neg (by simp)]
  simp [List.getLastD_eq_getLast?]
theorem lastOf_le (l : List Nat) (x : Nat) : (l ≠ [] ∧ x ≤ l.getLastD 0) ↔ (x : Int) ≤ lastOf l := by
  unfold lastOf
  by_cases h : l = []
  · rw [if_pos h]
    constructor
    · intro h1; exact absurd h h1.1
    · intro h1; omega
  · rw [if_neg h]
    constructor
    · intro h1; omega
    · intro h1; exact ⟨h, by omega⟩
/-- A mask whose ids end at the last one. -/
def Upto (l : List Nat) : Prop := S.mask l < 2 ^ (lastOf l + 1).toNat ∧ -1 ≤ lastOf l ∧ lastOf l ≤ 31
theorem upto_nil : Upto [] := ⟨by decide, by decide, by decide⟩
theorem Upto.lt {l : List Nat} (h : Upto l) : S.mask l < 4294967296 := by
  obtain ⟨h1, h2, h3⟩ := h
  have : 2 ^ (lastOf l + 1).toNat ≤ 2 ^ 32 := Nat.pow_le_pow_right (by decide) (by omega)
  omega
theorem Upto.snoc {l : List Nat} (h : Upto l) {x : Nat} (hx : ¬ (x : Int) ≤ lastOf l) (h31 : x ≤ 31) : Upto (l ++ [x]) ∧ S.mask (l ++ [x]) = S.mask l ||| S.one x := by
  obtain ⟨h1, h2, h3⟩ := h
  have hp : 2 ^ (lastOf l + 1).toNat ≤ 2 ^ x := Nat.pow_le_pow_right (by decide) (by omega)
  have hm : S.mask (l ++ [x]) = S.mask l + 2 ^ x := S.mask_snoc l x
  refine ⟨⟨?_, by rw [lastOf_snoc]; omega, by rw [lastOf_snoc]; omega⟩, ?_⟩
  · rw [lastOf_snoc, hm, show ((x : Int) + 1).toNat = x + 1 by omega, Nat.pow_succ]; omega
  · rw [hm, S.one_nat x h31, or_add _ _ (by omega)]

set_option maxRecDepth 100000 in
set_option maxHeartbeats 4000000 in
theorem pd_set (g B : Nat) (A : Option Addr) (n c : Nat) (bs : List Nat) (s : R.St) (hs : R.Ok bs s) (size : Int) (hm64 : -9223372036854775808 ≤ size ∧ size ≤ 9223372036854775807) (m : Nat) (s' : R.St) (hx : R.set bs s size = (m, s')) (w : World) (hk : Pd w g A n c s)
    (hr : Row byteV w B A n bs) (hb : ∀ x ∈ bs, x < 256) (hnc : n ≤ c) (hm : c ≤ maxLen) (hBg : B ≤ g) (hBw : B ≤ w.heap.size) :
    Calls Tryd.prog 22 #[.pointer (some ⟨g, 0, none⟩), .int .i64 size] w fun r w' => r = .returned (.int .u32 (m : Int)) ∧ Pd w' g A n c s' ∧ w.grownBy w' (some g) ∧ Row byteV w' B A n bs := by
  have HK := kp hk; have HR := kp hr; have HB := kp hb; have HS := kp hs; have HX := kp hx; have HM := kp hm
  have hgs := hk.lt
  obtain ⟨hm1, hm2⟩ := hm64
  clear hk hr hs hx hb hm
  have hcases : 32 < size ∨ size < 0 ∨ (0 ≤ size ∧ size ≤ 32) := by omega
  rcases hcases with hc | hc | ⟨hca, hcb⟩
  · have hcl : R.clip size = 32 := by unfold R.clip; rw [if_neg (by omega), if_pos hc]
    obtain ⟨x0, s0, h0⟩ : ∃ x s1, R.num bs s 32 = (x, s1) := ⟨_, _, rfl⟩
    have hx0 : (x0 : Int) ≤ 32 := by have := R.num_le (bs := bs) (s := s) (most := 32) (by omega); rw [h0] at this; exact this
    have hok0 := R.num_ok HB.out HS.out 32
    rw [h0] at hok0
    have HRes : Kept (R.ids bs (32 - 1) x0 [] s0 = (m, s')) := kp <| by rw [← HX.out]; unfold R.set; rw [hcl, h0]
    have H0 := kp h0; have HOk0 := kp hok0.1
    clear h0 hok0 hcl
    go_enter Tryd.func22, Tryd.ntmps22
    go_wp2_with (go_at_call 17; go_must (refine (pd_num g B A n c bs s HS.out 32 x0 s0 H0.out w HK.out HR.out HB.out hnc HM.out hBg hBw).mono ?_); rintro e2 w2 ⟨rfl, hk2, hg2, hr2⟩; have HK2 := kp hk2; have HG2 := kp hg2; have HR2 := kp hr2; clear hk2 hg2 hr2)
    go_loopw [5, 6, 13] (fun v5 v6 v13 wr => ∃ (i : Nat) (l : List Nat) (t : R.St), i ≤ x0 ∧ v13 = .int .i64 i ∧ v5 = .int .u32 (S.mask l : Nat) ∧ v6 = .int .i64 (lastOf l) ∧ Upto l ∧ (t.why = 0 ∨ l = []) ∧ R.ids bs (32 - 1) (x0 - i) l t = (m, s') ∧ R.Ok bs t ∧ Pd wr g A n c t ∧ w.grownBy wr (some g) ∧ Row byteV wr B A n bs) (fun _ _ v13 _ => x0 - (intOf v13).toNat)
    case atStart => exact ⟨0, [], s0, by omega, rfl, rfl, rfl, upto_nil, .inr rfl, HRes.out, HOk0.out, HK2.out, HG2.out, HR2.out⟩
    case round =>
      clear HK2 HG2 HR2 HRes H0 HOk0
      obtain ⟨i, l, t, hi, rfl, rfl, rfl, hup, htl, hids, hok, hrd, hgr, hrow⟩ := hrel
      have hmlt := hup.lt
      have hsz := hgr.size
      have hl1 := hup.2.1
      have hl2 := hup.2.2
      have HUp := kp hup; have HTl := kp htl; have HIds := kp hids; have HOk := kp hok; have HRd := kp hrd; have HGr := kp hgr; have HRow := kp hrow
      clear hup htl hids hok hrd hgr hrow
      by_cases hlt : i < x0
      · obtain ⟨y, s1, h1⟩ : ∃ x s1, R.num bs t (32 - 1) = (x, s1) := ⟨_, _, rfl⟩
        have hy : (y : Int) ≤ 32 - 1 := by have := R.num_le (bs := bs) (s := t) (most := 32 - 1) (by omega); rw [h1] at this; exact this
        have hok1 := R.num_ok HB.out HOk.out (32 - 1)
        rw [h1] at hok1
        have H1 := kp h1; have HOk1 := kp hok1.1
        have hx1 : x0 - i = (x0 - (i + 1)) + 1 := by omega
        clear h1 hok1
        obtain ⟨t1, ht1⟩ : ∃ t1, R.above t s1 y (lastOf l) = t1 := ⟨_, rfl⟩
        have HT1 := kp ht1
        obtain ⟨la, hla⟩ : ∃ la, lastOf l = la := ⟨_, rfl⟩
        have HLa := kp hla
        rw [hla] at hl1 hl2 ht1
        have HT1' := kp ht1
        clear ht1
        by_cases hgo : s1.why = 0 ∧ ¬ (y : Int) ≤ la
        · obtain ⟨hw, hord⟩ := hgo
          have hnl : ¬ (l ≠ [] ∧ y ≤ l.getLastD 0) := fun h => hord (by rw [← hla]; exact (lastOf_le l y).1 h)
          have HIn : Kept (R.ids bs (32 - 1) (x0 - (i + 1)) (l ++ [y]) s1 = (m, s')) := kp <| by rw [← HIds.out, hx1]; exact (R.ids_on H1.out hw hnl).symm
          have HE1 : Kept (s1 = t1) := kp <| by rw [← HT1'.out]; unfold R.above; rw [if_neg (fun h => hord h.2)]
          have hw1 : t1.why = 0 := by rw [← HE1.out]; exact hw
          have hwz : ((t1.why : Int) != 0) = false := by simp; omega
          obtain ⟨hup1, hmo⟩ := HUp.out.snoc (x := y) (by rw [hla]; exact hord) (by omega)
          have HUp1 := kp hup1
          obtain ⟨o, ho⟩ : ∃ o, S.one y = o := ⟨_, rfl⟩
          have holt : o < 4294967296 := by rw [← ho]; exact S.one_lt y
          obtain ⟨q, hq⟩ : ∃ q, S.mask l = q := ⟨_, rfl⟩
          rw [hq] at hmlt hmo
          rw [ho] at hmo
          have HMo := kp hmo
          have HBt : Kept (bits .or .u32 (q : Int) (o : Int) = ((q ||| o : Nat) : Int)) := kp <| u32_or_nat q o hmlt holt
          have HO := kp ho
          rw [hla, hq]
          clear ho hq hla hw hord hnl hmo hup1
          go_wp2_with (first
            | (go_at_call 37; go_must (refine (pd_above g B A n c bs t HOk.out la (32 - 1) y s1 H1.out t1 HT1'.out wr HRd.out HRow.out HB.out hnc HM.out hBg (by omega)).mono ?_); rintro e2 w3 ⟨rfl, hk3, hg3, hr3⟩
               obtain ⟨hd0, hd1, hd2, he1, he2⟩ := hk3.cells
               have HK3 := kp hk3; have HG3 := kp hg3; have HR3 := kp hr3
               clear hk3 hg3 hr3)
            | (go_at_call 38; go_must (refine (one_any (y : Int) (by omega) o HO.out _).mono ?_); rintro e' w' ⟨rfl, rfl⟩))
          go_roundw
          case rel => exact ⟨i + 1, l ++ [y], t1, by omega, by go_num, by rw [HMo.out, HBt.out], by rw [lastOf_snoc], HUp1.out, .inl hw1, by rw [← HE1.out]; exact HIn.out, by rw [← HE1.out]; exact HOk1.out, HK3.out, grown_trans HGr.out HG3.out, HR3.out⟩
          case measure => simp [intOf]; omega
        · have HE : Kept (m = 0 ∧ s' = t1) := kp <| by
            have h1 := HIds.out
            rw [hx1] at h1
            by_cases hw : s1.why = 0
            · have hord : (y : Int) ≤ la := Classical.byContradiction fun h => hgo ⟨hw, h⟩
              rw [R.ids_order H1.out hw ((lastOf_le l y).2 (by rw [hla]; exact hord))] at h1
              rw [← HT1'.out]
              unfold R.above
              rw [if_pos ⟨hw, hord⟩]
              unfold R.fail at h1
              rw [if_pos (show (⟨t.at_, s1.wh, s1.why⟩ : R.St).why = 0 from hw)] at h1
              cases h1
              exact ⟨rfl, rfl⟩
            · rw [R.ids_bad H1.out hw] at h1
              rw [← HT1'.out]
              unfold R.above
              rw [if_neg (fun h => hw h.1)]
              cases h1
              exact ⟨rfl, rfl⟩
          have hwz : ((t1.why : Int) != 0) = true := by
            have : t1.why ≠ 0 := by
              rw [← HT1'.out]
              unfold R.above
              by_cases hc2 : s1.why = 0 ∧ (y : Int) ≤ la
              · rw [if_pos hc2]; show (5 : Nat) ≠ 0; decide
              · rw [if_neg hc2]
                intro hw
                exact hgo ⟨hw, fun h => hc2 ⟨hw, h⟩⟩
            simp; omega
          rw [hla]
          obtain ⟨q, hq⟩ : ∃ q, S.mask l = q := ⟨_, rfl⟩
          rw [hq]
          clear hgo hla hq
          go_wp2_with (first
            | (go_at_call 37; go_must (refine (pd_above g B A n c bs t HOk.out la (32 - 1) y s1 H1.out t1 HT1'.out wr HRd.out HRow.out HB.out hnc HM.out hBg (by omega)).mono ?_); rintro e2 w3 ⟨rfl, hk3, hg3, hr3⟩
               obtain ⟨hd0, hd1, hd2, he1, he2⟩ := hk3.cells
               have HK3 := kp hk3; have HG3 := kp hg3; have HR3 := kp hr3
               clear hk3 hg3 hr3))
          go_ret
          exact ⟨ret_int (by rw [HE.out.1]; rfl), by rw [HE.out.2]; exact HK3.out, grown_trans HGr.out HG3.out, HR3.out⟩
      · have hxi : x0 - i = 0 := by omega
        obtain ⟨q, hq⟩ : ∃ q, S.mask l = q := ⟨_, rfl⟩
        rw [hq] at hmlt
        have HE : Kept (q = m ∧ t = s') := kp <| by
          have h1 := HIds.out
          rw [hxi, R.ids_zero] at h1
          rcases HTl.out with h2 | h2
          · rw [if_pos h2, hq, Nat.mod_eq_of_lt hmlt] at h1
            cases h1; exact ⟨rfl, rfl⟩
          · have : q = 0 := by rw [← hq, h2]; rfl
            rw [this]
            by_cases h3 : t.why = 0
            · rw [if_pos h3, hq, this] at h1
              cases h1; exact ⟨rfl, rfl⟩
            · rw [if_neg h3] at h1
              cases h1; exact ⟨rfl, rfl⟩
        rw [hq]
        obtain ⟨la, hla⟩ : ∃ la, lastOf l = la := ⟨_, rfl⟩
        rw [hla]
        clear hla hq hlt
        go_wp2
        go_ret
        exact ⟨ret_int (by rw [HE.out.1]), by rw [← HE.out.2]; exact HRd.out, HGr.out, HRow.out⟩
  · have hcl : R.clip size = 0 := by unfold R.clip; rw [if_pos hc]
    obtain ⟨x0, s0, h0⟩ : ∃ x s1, R.num bs s 0 = (x, s1) := ⟨_, _, rfl⟩
    have hx0 : (x0 : Int) ≤ 0 := by have := R.num_le (bs := bs) (s := s) (most := 0) (by omega); rw [h0] at this; exact this
    have hok0 := R.num_ok HB.out HS.out 0
    rw [h0] at hok0
    have HRes : Kept (R.ids bs (0 - 1) x0 [] s0 = (m, s')) := kp <| by rw [← HX.out]; unfold R.set; rw [hcl, h0]
    have H0 := kp h0; have HOk0 := kp hok0.1
    clear h0 hok0 hcl
    go_enter Tryd.func22, Tryd.ntmps22
    go_wp2_with (go_at_call 17; go_must (refine (pd_num g B A n c bs s HS.out 0 x0 s0 H0.out w HK.out HR.out HB.out hnc HM.out hBg hBw).mono ?_); rintro e2 w2 ⟨rfl, hk2, hg2, hr2⟩; have HK2 := kp hk2; have HG2 := kp hg2; have HR2 := kp hr2; clear hk2 hg2 hr2)
    go_loopw [5, 6, 13] (fun v5 v6 v13 wr => ∃ (i : Nat) (l : List Nat) (t : R.St), i ≤ x0 ∧ v13 = .int .i64 i ∧ v5 = .int .u32 (S.mask l : Nat) ∧ v6 = .int .i64 (lastOf l) ∧ Upto l ∧ (t.why = 0 ∨ l = []) ∧ R.ids bs (0 - 1) (x0 - i) l t = (m, s') ∧ R.Ok bs t ∧ Pd wr g A n c t ∧ w.grownBy wr (some g) ∧ Row byteV wr B A n bs) (fun _ _ v13 _ => x0 - (intOf v13).toNat)
    case atStart => exact ⟨0, [], s0, by omega, rfl, rfl, rfl, upto_nil, .inr rfl, HRes.out, HOk0.out, HK2.out, HG2.out, HR2.out⟩
    case round =>
      clear HK2 HG2 HR2 HRes H0 HOk0
      obtain ⟨i, l, t, hi, rfl, rfl, rfl, hup, htl, hids, hok, hrd, hgr, hrow⟩ := hrel
      have hmlt := hup.lt
      have hsz := hgr.size
      have hl1 := hup.2.1
      have hl2 := hup.2.2
      have HUp := kp hup; have HTl := kp htl; have HIds := kp hids; have HOk := kp hok; have HRd := kp hrd; have HGr := kp hgr; have HRow := kp hrow
      clear hup htl hids hok hrd hgr hrow
      by_cases hlt : i < x0
      · exact absurd hlt (by omega)
      · have hxi : x0 - i = 0 := by omega
        obtain ⟨q, hq⟩ : ∃ q, S.mask l = q := ⟨_, rfl⟩
        rw [hq] at hmlt
        have HE : Kept (q = m ∧ t = s') := kp <| by
          have h1 := HIds.out
          rw [hxi, R.ids_zero] at h1
          rcases HTl.out with h2 | h2
          · rw [if_pos h2, hq, Nat.mod_eq_of_lt hmlt] at h1
            cases h1; exact ⟨rfl, rfl⟩
          · have : q = 0 := by rw [← hq, h2]; rfl
            rw [this]
            by_cases h3 : t.why = 0
            · rw [if_pos h3, hq, this] at h1
              cases h1; exact ⟨rfl, rfl⟩
            · rw [if_neg h3] at h1
              cases h1; exact ⟨rfl, rfl⟩
        rw [hq]
        obtain ⟨la, hla⟩ : ∃ la, lastOf l = la := ⟨_, rfl⟩
        rw [hla]
        clear hla hq hlt
        go_wp2
        go_ret
        exact ⟨ret_int (by rw [HE.out.1]), by rw [← HE.out.2]; exact HRd.out, HGr.out, HRow.out⟩
  · have hcl : R.clip size = size := by unfold R.clip; rw [if_neg (by omega), if_neg (by omega)]
    obtain ⟨x0, s0, h0⟩ : ∃ x s1, R.num bs s size = (x, s1) := ⟨_, _, rfl⟩
    have hx0 : (x0 : Int) ≤ size := by have := R.num_le (bs := bs) (s := s) (most := size) (by omega); rw [h0] at this; exact this
    have hok0 := R.num_ok HB.out HS.out size
    rw [h0] at hok0
    have HRes : Kept (R.ids bs (size - 1) x0 [] s0 = (m, s')) := kp <| by rw [← HX.out]; unfold R.set; rw [hcl, h0]
    have H0 := kp h0; have HOk0 := kp hok0.1
    clear h0 hok0 hcl
    go_enter Tryd.func22, Tryd.ntmps22
    go_wp2_with (go_at_call 17; go_must (refine (pd_num g B A n c bs s HS.out size x0 s0 H0.out w HK.out HR.out HB.out hnc HM.out hBg hBw).mono ?_); rintro e2 w2 ⟨rfl, hk2, hg2, hr2⟩; have HK2 := kp hk2; have HG2 := kp hg2; have HR2 := kp hr2; clear hk2 hg2 hr2)
    go_loopw [5, 6, 13] (fun v5 v6 v13 wr => ∃ (i : Nat) (l : List Nat) (t : R.St), i ≤ x0 ∧ v13 = .int .i64 i ∧ v5 = .int .u32 (S.mask l : Nat) ∧ v6 = .int .i64 (lastOf l) ∧ Upto l ∧ (t.why = 0 ∨ l = []) ∧ R.ids bs (size - 1) (x0 - i) l t = (m, s') ∧ R.Ok bs t ∧ Pd wr g A n c t ∧ w.grownBy wr (some g) ∧ Row byteV wr B A n bs) (fun _ _ v13 _ => x0 - (intOf v13).toNat)
    case atStart => exact ⟨0, [], s0, by omega, rfl, rfl, rfl, upto_nil, .inr rfl, HRes.out, HOk0.out, HK2.out, HG2.out, HR2.out⟩
    case round =>
      clear HK2 HG2 HR2 HRes H0 HOk0
      obtain ⟨i, l, t, hi, rfl, rfl, rfl, hup, htl, hids, hok, hrd, hgr, hrow⟩ := hrel
      have hmlt := hup.lt
      have hsz := hgr.size
      have hl1 := hup.2.1
      have hl2 := hup.2.2
      have HUp := kp hup; have HTl := kp htl; have HIds := kp hids; have HOk := kp hok; have HRd := kp hrd; have HGr := kp hgr; have HRow := kp hrow
      clear hup htl hids hok hrd hgr hrow
      by_cases hlt : i < x0
      · obtain ⟨y, s1, h1⟩ : ∃ x s1, R.num bs t (size - 1) = (x, s1) := ⟨_, _, rfl⟩
        have hy : (y : Int) ≤ size - 1 := by have := R.num_le (bs := bs) (s := t) (most := size - 1) (by omega); rw [h1] at this; exact this
        have hok1 := R.num_ok HB.out HOk.out (size - 1)
        rw [h1] at hok1
        have H1 := kp h1; have HOk1 := kp hok1.1
        have hx1 : x0 - i = (x0 - (i + 1)) + 1 := by omega
        clear h1 hok1
        obtain ⟨t1, ht1⟩ : ∃ t1, R.above t s1 y (lastOf l) = t1 := ⟨_, rfl⟩
        have HT1 := kp ht1
        obtain ⟨la, hla⟩ : ∃ la, lastOf l = la := ⟨_, rfl⟩
        have HLa := kp hla
        rw [hla] at hl1 hl2 ht1
        have HT1' := kp ht1
        clear ht1
        by_cases hgo : s1.why = 0 ∧ ¬ (y : Int) ≤ la
        · obtain ⟨hw, hord⟩ := hgo
          have hnl : ¬ (l ≠ [] ∧ y ≤ l.getLastD 0) := fun h => hord (by rw [← hla]; exact (lastOf_le l y).1 h)
          have HIn : Kept (R.ids bs (size - 1) (x0 - (i + 1)) (l ++ [y]) s1 = (m, s')) := kp <| by rw [← HIds.out, hx1]; exact (R.ids_on H1.out hw hnl).symm
          have HE1 : Kept (s1 = t1) := kp <| by rw [← HT1'.out]; unfold R.above; rw [if_neg (fun h => hord h.2)]
          have hw1 : t1.why = 0 := by rw [← HE1.out]; exact hw
          have hwz : ((t1.why : Int) != 0) = false := by simp; omega
          obtain ⟨hup1, hmo⟩ := HUp.out.snoc (x := y) (by rw [hla]; exact hord) (by omega)
          have HUp1 := kp hup1
          obtain ⟨o, ho⟩ : ∃ o, S.one y = o := ⟨_, rfl⟩
          have holt : o < 4294967296 := by rw [← ho]; exact S.one_lt y
          obtain ⟨q, hq⟩ : ∃ q, S.mask l = q := ⟨_, rfl⟩
          rw [hq] at hmlt hmo
          rw [ho] at hmo
          have HMo := kp hmo
          have HBt : Kept (bits .or .u32 (q : Int) (o : Int) = ((q ||| o : Nat) : Int)) := kp <| u32_or_nat q o hmlt holt
          have HO := kp ho
          rw [hla, hq]
          clear ho hq hla hw hord hnl hmo hup1
          go_wp2_with (first
            | (go_at_call 37; go_must (refine (pd_above g B A n c bs t HOk.out la (size - 1) y s1 H1.out t1 HT1'.out wr HRd.out HRow.out HB.out hnc HM.out hBg (by omega)).mono ?_); rintro e2 w3 ⟨rfl, hk3, hg3, hr3⟩
               obtain ⟨hd0, hd1, hd2, he1, he2⟩ := hk3.cells
               have HK3 := kp hk3; have HG3 := kp hg3; have HR3 := kp hr3
               clear hk3 hg3 hr3)
            | (go_at_call 38; go_must (refine (one_any (y : Int) (by omega) o HO.out _).mono ?_); rintro e' w' ⟨rfl, rfl⟩))
          go_roundw
          case rel => exact ⟨i + 1, l ++ [y], t1, by omega, by go_num, by rw [HMo.out, HBt.out], by rw [lastOf_snoc], HUp1.out, .inl hw1, by rw [← HE1.out]; exact HIn.out, by rw [← HE1.out]; exact HOk1.out, HK3.out, grown_trans HGr.out HG3.out, HR3.out⟩
          case measure => simp [intOf]; omega
        · have HE : Kept (m = 0 ∧ s' = t1) := kp <| by
            have h1 := HIds.out
            rw [hx1] at h1
            by_cases hw : s1.why = 0
            · have hord : (y : Int) ≤ la := Classical.byContradiction fun h => hgo ⟨hw, h⟩
              rw [R.ids_order H1.out hw ((lastOf_le l y).2 (by rw [hla]; exact hord))] at h1
              rw [← HT1'.out]
              unfold R.above
              rw [if_pos ⟨hw, hord⟩]
              unfold R.fail at h1
              rw [if_pos (show (⟨t.at_, s1.wh, s1.why⟩ : R.St).why = 0 from hw)] at h1
              cases h1
              exact ⟨rfl, rfl⟩
            · rw [R.ids_bad H1.out hw] at h1
              rw [← HT1'.out]
              unfold R.above
              rw [if_neg (fun h => hw h.1)]
              cases h1
              exact ⟨rfl, rfl⟩
          have hwz : ((t1.why : Int) != 0) = true := by
            have : t1.why ≠ 0 := by
              rw [← HT1'.out]
              unfold R.above
              by_cases hc2 : s1.why = 0 ∧ (y : Int) ≤ la
              · rw [if_pos hc2]; show (5 : Nat) ≠ 0; decide
              · rw [if_neg hc2]
                intro hw
                exact hgo ⟨hw, fun h => hc2 ⟨hw, h⟩⟩
            simp; omega
          rw [hla]
          obtain ⟨q, hq⟩ : ∃ q, S.mask l = q := ⟨_, rfl⟩
          rw [hq]
          clear hgo hla hq
          go_wp2_with (first
            | (go_at_call 37; go_must (refine (pd_above g B A n c bs t HOk.out la (size - 1) y s1 H1.out t1 HT1'.out wr HRd.out HRow.out HB.out hnc HM.out hBg (by omega)).mono ?_); rintro e2 w3 ⟨rfl, hk3, hg3, hr3⟩
               obtain ⟨hd0, hd1, hd2, he1, he2⟩ := hk3.cells
               have HK3 := kp hk3; have HG3 := kp hg3; have HR3 := kp hr3
               clear hk3 hg3 hr3))
          go_ret
          exact ⟨ret_int (by rw [HE.out.1]; rfl), by rw [HE.out.2]; exact HK3.out, grown_trans HGr.out HG3.out, HR3.out⟩
      · have hxi : x0 - i = 0 := by omega
        obtain ⟨q, hq⟩ : ∃ q, S.mask l = q := ⟨_, rfl⟩
        rw [hq] at hmlt
        have HE : Kept (q = m ∧ t = s') := kp <| by
          have h1 := HIds.out
          rw [hxi, R.ids_zero] at h1
          rcases HTl.out with h2 | h2
          · rw [if_pos h2, hq, Nat.mod_eq_of_lt hmlt] at h1
            cases h1; exact ⟨rfl, rfl⟩
          · have : q = 0 := by rw [← hq, h2]; rfl
            rw [this]
            by_cases h3 : t.why = 0
            · rw [if_pos h3, hq, this] at h1
              cases h1; exact ⟨rfl, rfl⟩
            · rw [if_neg h3] at h1
              cases h1; exact ⟨rfl, rfl⟩
        rw [hq]
        obtain ⟨la, hla⟩ : ∃ la, lastOf l = la := ⟨_, rfl⟩
        rw [hla]
        clear hla hq hlt
        go_wp2
        go_ret
        exact ⟨ret_int (by rw [HE.out.1]), by rw [← HE.out.2]; exact HRd.out, HGr.out, HRow.out⟩
end Go.Proofs.YtgdnimhhhllgaaaDoor
