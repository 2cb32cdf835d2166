/- Bytes read as a program, as the program does it, walked: Read. -/
import Derived.Test.YtdnhfpphjpnklaaPcodeP6
import Derived.Test.YtdnhfpphjpnklaaWireP5
namespace Go.Proofs.Ytdnhfpphjpnklaa
open Go.RowKit

/-- What a function hands back that keeps two results in blocks. -/
theorem results_blk2 {P : Program} {fn : Func} {p q : Tmp} {ty ty2 : TypeId} (h : fn.results = #[.cell p ty, .cell q ty2]) (tmps : Array Value) (w : World) (g g2 : Nat) (t t2 : TypeId) (cs cs2 : List Value) (d d2 : TypeDesc)
    (hp : tmps.getD p undef = .pointer (some ⟨g, 0, none⟩)) (hq : tmps.getD q undef = .pointer (some ⟨g2, 0, none⟩)) (hg : Blk w g t cs) (hg2 : Blk w g2 t2 cs2)
    (hu : P.underlying ty = some d) (hd : (match d with | .struct _ | .array _ _ => true | _ => false) = true) (hi : (P.info? ty).map (·.size) = some cs.length)
    (hu2 : P.underlying ty2 = some d2) (hd2 : (match d2 with | .struct _ | .array _ _ => true | _ => false) = true) (hi2 : (P.info? ty2).map (·.size) = some cs2.length) :
    (results fn tmps).run P w = .ok (.tuple #[.agg cs.toArray, .agg cs2.toArray]) w := by
  have hp' : tmps[p]?.getD undef = .pointer (some ⟨g, 0, none⟩) := by simpa using hp
  have hq' : tmps[q]?.getD undef = .pointer (some ⟨g2, 0, none⟩) := by simpa using hq
  simp [results, h, hp', hq', asAddr, run_loadVar_row w g t ty cs.toArray (0, 0) d hg hu hd (by simpa using hi), run_loadVar_row w g2 t2 ty2 cs2.toArray (0, 0) d2 hg2 hu2 hd2 (by simpa using hi2)]
theorem strOf_list (bs : List Nat) : (strOf bs).toList = bs.map UInt8.ofNat := by unfold strOf; rw [ByteArray.toList_mk]
theorem bytes_inj {a b : List Nat} (ha : ∀ x ∈ a, x < 256) (hb : ∀ x ∈ b, x < 256) (h : a.map UInt8.ofNat = b.map UInt8.ofNat) : a = b := by
  have e : ∀ l : List Nat, (∀ x ∈ l, x < 256) → (l.map UInt8.ofNat).map UInt8.toNat = l := fun l hl => by
    rw [List.map_map]
    conv => rhs; rw [← List.map_id l]
    refine List.map_congr_left fun x hx => ?_
    have := hl x hx
    simp [UInt8.toNat_ofNat']
    omega
  rw [← e a ha, h, e b hb]
/-- The mark, as a string. -/
theorem mark_str : strOf C.mark = ⟨#[97, 108, 112, 49]⟩ := by rfl
theorem mark_small : ∀ x ∈ C.mark, x < 256 := by decide
theorem mark_is {out : List Nat} (h : out = C.mark) : ((strOf out).toList == ([97, 108, 112, 49] : List UInt8)) = true := by
  rw [h, strOf_list]; rfl
theorem mark_not {out : List Nat} (hb : ∀ x ∈ out, x < 256) (h : out ≠ C.mark) : ((strOf out).toList == ([97, 108, 112, 49] : List UInt8)) = false := by
  rw [show ([97, 108, 112, 49] : List UInt8) = C.mark.map UInt8.ofNat from rfl, strOf_list, beq_eq_false_iff_ne]
  exact fun e => h (bytes_inj hb mark_small e)
/-- No program. -/
def pgNone : Pg := ⟨0, 0, 0, none, 0, 0, []⟩
theorem pgNone_ok (w : World) (B : Nat) : pgNone.Ok w B := ⟨by unfold I64; simp [pgNone], by unfold I64; simp [pgNone], by unfold I64; simp [pgNone], Row.none_ rfl rfl, by simp [pgNone], Nat.le_refl _, by simp [pgNone, maxLen], fun _ => rfl⟩
theorem pgNone_data : C.dataOf pgNone = C.none_ := rfl
theorem spot_cells2 (x y : Int) : ([Value.int .i64 x, .int .i64 y] : List Value).length = 2 := rfl
theorem cvr {w : World} {B n c : Nat} {A : Option Addr} {bs : List Nat} (h : Row byteV w B A n bs) : (convert 22 9 (.slice A n c)).run Try.prog w = .ok (.string (strOf bs)) w :=
  run_string h 22 5 9 c Try.underlying22 Try.underlying5 Try.underlying9

/-- What Read hands back. -/
def ReadPost (w : World) (d : C.PD) (at_ why : Nat) : Ending → World → Prop := fun e w' => ∃ p : Pg, e = .returned (.tuple #[pgA p, .agg #[.int .i64 (at_ : Int), .int .i64 (why : Int)]]) ∧ p.Ok w' w'.heap.size ∧ C.dataOf p = d ∧ Q.small p = true ∧ Below w.heap.size w w'

set_option maxRecDepth 1000000 in
set_option maxHeartbeats 8000000 in
/-- More bytes than may be. -/
theorem pc_read_long (A : Option Addr) (n c : Nat) (bs : List Nat) (w : World) (hr : Row byteV w w.heap.size A n bs) (hn : 65536 < n) (hm : n ≤ maxLen) :
    Calls Try.prog 8 #[.slice A n c] w (ReadPost w C.none_ 0 4) := by
  unfold ReadPost
  have HR := kp hr
  unfold maxLen at hm
  clear hr
  go_enter Try.func8, Try.ntmps8
  go_wp2_with (first
    | ((with_reducible show wpList _ _ _ (⟨some 2, _, _, _, _, _⟩ :: _) _ _); go_must (refine wpList_alloc_zero rfl 26 rfl _ pcp_zero ?_); intro gr w1 hgr hk1 hw1; have HKa1 := kp hk1; have HW1 := kp hw1; have hs1 := hw1.size; have hl1 := hk1.lt; clear hk1 hw1)
    | ((with_reducible show wpList _ _ _ (⟨some 3, _, _, _, _, _⟩ :: _) _ _); go_must (refine wpList_alloc_zero rfl 29 rfl _ spot_zero ?_); intro gs w2 hgs hk2 hw2
       have HKb2 := kp hk2; have HKa2 := kp (HKa1.out.below hw2 hl1); have HW2 := kp (HW1.out.trans (hw2.mono hs1)); have hs2 := hw2.size; have hl2 := hk2.lt; have hbw := HW2.out.size
       have HR2 := kp (HR.out.below HW2.out)
       clear hk2 hw2)
    | ((with_reducible show wpList _ _ _ (⟨none, _, _, _, _, _⟩ :: _) _ _); (refine wpList_store_blk rfl 26 (.tmp 2) (.tmp 13) rfl gr (pgC pgNone) rfl rfl _ _ (HKa2.out.below (Below.refl w2.heap.size w2) (by omega)) pg_size rfl (pcp_ones pgNone) ?_); intro wa hka hga hza
       have HKa := kp hka; have HGa := kp hga; have HKs := kp ((HKb2.out.below (Below.refl w2.heap.size w2) hl2).grown hga (by intro e; cases e; omega))
       clear hka hga)
    | ((with_reducible show wpList _ _ _ (⟨none, _, _, _, _, _⟩ :: _) _ _); (refine wpList_store_blk rfl 29 (.tmp 3) (.tmp 14) rfl gs [.int .i64 0, .int .i64 4] rfl rfl _ _ HKs.out spot_size rfl (spot_ones _ _) ?_); intro wb hkb hgb hzb
       have HKbb := kp hkb; have HKab := kp (HKa.out.grown hgb (by intro e; cases e; omega))
       have HBb : Kept (Below w.heap.size w wb) := kp (((HW2.out.trans ((Below.refl w2.heap.size w2).mono (by omega))).grown HGa.out (by have := (Below.refl w2.heap.size w2).size; omega) (by intro k e; cases e; exact hgr)).grown hgb (by have := (Below.refl w2.heap.size w2).size; omega) (by intro k e; cases e; omega))
       have HGb := kp hgb
       clear hkb hgb))
  refine bodyPost_ret (results_blk2 (P := Try.prog) (fn := Try.f8) rfl _ _ gr gs 26 29 _ _ _ _ rfl rfl HKab.out HKbb.out Try.underlying26 rfl pg_size Try.underlying29 rfl spot_size) rfl ⟨pgNone, rfl, pgNone_ok _ _, rfl, rfl, HBb.out⟩

set_option maxRecDepth 1000000 in
set_option maxHeartbeats 8000000 in
/-- Another mark. -/
theorem pc_read_form (A : Option Addr) (n c : Nat) (bs : List Nat) (w : World) (hr : Row byteV w w.heap.size A n bs) (hb : ∀ x ∈ bs, x < 256) (hn : n ≤ 65536) (out : List Nat) (s1 : R.St) (h0 : C.h0 bs = (out, s1)) (hlen : out.length = 4) (hne : out ≠ C.mark) (hob : ∀ x ∈ out, x < 256) :
    Calls Try.prog 8 #[.slice A n c] w (ReadPost w C.none_ 0 3) := by
  unfold ReadPost
  have HR := kp hr; have HB := kp hb; have HH0 := kp h0; have HLen := kp hlen
  have HS0 : Kept (R.Ok bs C.s0) := kp ⟨Nat.zero_le _, Nat.zero_le _, by decide⟩
  clear hr hb h0 hlen
  have hte := mark_not hob hne
  clear hob hne
  go_enter Try.func8, Try.ntmps8
  go_wp2_with (first
    | ((with_reducible show wpList _ _ _ (⟨some 2, _, _, _, _, _⟩ :: _) _ _); go_must (refine wpList_alloc_zero rfl 26 rfl _ pcp_zero ?_); intro gr w1 hgr hk1 hw1; have HKa1 := kp hk1; have HW1 := kp hw1; have hs1 := hw1.size; have hl1 := hk1.lt; clear hk1 hw1)
    | ((with_reducible show wpList _ _ _ (⟨some 3, _, _, _, _, _⟩ :: _) _ _); go_must (refine wpList_alloc_zero rfl 29 rfl _ spot_zero ?_); intro gs w2 hgs hk2 hw2
       have HKb2 := kp hk2; have HKa2 := kp (HKa1.out.below hw2 hl1); have HW2 := kp (HW1.out.trans (hw2.mono hs1)); have hs2 := hw2.size; have hl2 := hk2.lt; have hbw := HW2.out.size
       have HR2 := kp (HR.out.below HW2.out)
       clear hk2 hw2)
    | (go_at_call 13; go_must (refine (pd_new w.heap.size A n c bs w2 HR2.out (by omega) (by omega)).mono ?_); rintro e w3 ⟨g, A1, c1, rfl, hg3, hk3, hr3, hc3, hm3, hb3⟩
       have HPd3 := kp hk3; have HR3 := kp hr3; have HM3 := kp hm3; have HB3 := kp hb3
       have hs3 := hb3.size; have hl3 := hk3.lt
       clear hk3 hr3 hm3 hb3)
    | (go_at_call 14; go_must (refine (pd_raw g g A1 n c1 bs C.s0 HS0.out 4 out s1 HH0.out w3 HPd3.out HR3.out (by omega) hc3 (Nat.le_refl _) (by omega)).mono ?_); rintro e w4 ⟨v, rfl, hown, hk4, hg4, hr4⟩
       have hbk := hown.block
       obtain ⟨A5, c5, rfl, hc5, hm5, hr5⟩ := Own.readsN hown HLen.out
       have HPd4 := kp hk4; have HR4 := kp hr4
       have HB4 := kp (HB3.out.grown hg4 hs3 (by intro k e; cases e; exact hg3))
       have hs4 := HB4.out.size; have hl4 := hk4.lt
       have hm55 : c5 ≤ 9223372036854775807 := by unfold maxLen at hm5; omega
       have hcv := cvr (c := c5) hr5
       clear hown hk4 hg4 hr4 hm5 hr5 hbk)
    | ((with_reducible show wpList _ _ _ (⟨none, _, _, _, _, _⟩ :: _) _ _); (refine wpList_store_blk rfl 26 (.tmp 2) (.tmp 27) rfl gr (pgC pgNone) rfl rfl _ _ (HKa2.out.below HB4.out (by omega)) pg_size rfl (pcp_ones pgNone) ?_); intro wa hka hga hza
       have HKa := kp hka; have HGa := kp hga; have HKs := kp ((HKb2.out.below HB4.out hl2).grown hga (by intro e; cases e; omega))
       clear hka hga)
    | ((with_reducible show wpList _ _ _ (⟨none, _, _, _, _, _⟩ :: _) _ _); (refine wpList_store_blk rfl 29 (.tmp 3) (.tmp 28) rfl gs [.int .i64 0, .int .i64 3] rfl rfl _ _ HKs.out spot_size rfl (spot_ones _ _) ?_); intro wb hkb hgb hzb
       have HKbb := kp hkb; have HKab := kp (HKa.out.grown hgb (by intro e; cases e; omega))
       have HBb : Kept (Below w.heap.size w wb) := kp (((HW2.out.trans (HB4.out.mono (by omega))).grown HGa.out (by have := HB4.out.size; omega) (by intro k e; cases e; exact hgr)).grown hgb (by have := HB4.out.size; omega) (by intro k e; cases e; omega))
       have HGb := kp hgb
       clear hkb hgb))
  refine bodyPost_ret (results_blk2 (P := Try.prog) (fn := Try.f8) rfl _ _ gr gs 26 29 _ _ _ _ rfl rfl HKab.out HKbb.out Try.underlying26 rfl pg_size Try.underlying29 rfl spot_size) rfl ⟨pgNone, rfl, pgNone_ok _ _, rfl, rfl, HBb.out⟩

set_option maxRecDepth 1000000 in
set_option maxHeartbeats 8000000 in
/-- A fault on the way. -/
theorem pc_read_fault (A : Option Addr) (n c : Nat) (bs : List Nat) (w : World) (hr : Row byteV w w.heap.size A n bs) (hb : ∀ x ∈ bs, x < 256) (hn : n ≤ 65536) (out : List Nat) (s1 : R.St) (h0 : C.h0 bs = (out, s1)) (hlen : out.length = 4) (hmk : out = C.mark) (hok : R.Ok bs s1) (d : C.PD) (s2 : R.St) (hx : C.rdPg bs s1 = (d, s2)) (hat : s2.at_ ≤ n) (s3 : R.St) (he : C.endOf n s2 = s3) (hfit : R.Fit s3) (hw : s3.why ≠ 0) :
    Calls Try.prog 8 #[.slice A n c] w (ReadPost w C.none_ s3.wh s3.why) := by
  unfold ReadPost
  have HR := kp hr; have HB := kp hb; have HH0 := kp h0; have HLen := kp hlen
  have HS0 : Kept (R.Ok bs C.s0) := kp ⟨Nat.zero_le _, Nat.zero_le _, by decide⟩
  clear hr hb h0 hlen
  have HOk1 := kp hok; have HX := kp hx; have HAt := kp hat
  have HEnd : Kept ((if s2.why = 0 ∧ s2.at_ < n then R.fail s2 7 else s2) = s3) := kp he
  clear hok hx hat he
  have hte := mark_is hmk
  clear hmk
  have HFit := kp hfit
  have hdw : decide (s3.why = 0) = false := decide_eq_false hw
  clear hfit hw
  go_enter Try.func8, Try.ntmps8
  go_wp2_with (first
    | ((with_reducible show wpList _ _ _ (⟨some 2, _, _, _, _, _⟩ :: _) _ _); go_must (refine wpList_alloc_zero rfl 26 rfl _ pcp_zero ?_); intro gr w1 hgr hk1 hw1; have HKa1 := kp hk1; have HW1 := kp hw1; have hs1 := hw1.size; have hl1 := hk1.lt; clear hk1 hw1)
    | ((with_reducible show wpList _ _ _ (⟨some 3, _, _, _, _, _⟩ :: _) _ _); go_must (refine wpList_alloc_zero rfl 29 rfl _ spot_zero ?_); intro gs w2 hgs hk2 hw2
       have HKb2 := kp hk2; have HKa2 := kp (HKa1.out.below hw2 hl1); have HW2 := kp (HW1.out.trans (hw2.mono hs1)); have hs2 := hw2.size; have hl2 := hk2.lt; have hbw := HW2.out.size
       have HR2 := kp (HR.out.below HW2.out)
       clear hk2 hw2)
    | (go_at_call 13; go_must (refine (pd_new w.heap.size A n c bs w2 HR2.out (by omega) (by omega)).mono ?_); rintro e w3 ⟨g, A1, c1, rfl, hg3, hk3, hr3, hc3, hm3, hb3⟩
       have HPd3 := kp hk3; have HR3 := kp hr3; have HM3 := kp hm3; have HB3 := kp hb3
       have hs3 := hb3.size; have hl3 := hk3.lt
       clear hk3 hr3 hm3 hb3)
    | (go_at_call 14; go_must (refine (pd_raw g g A1 n c1 bs C.s0 HS0.out 4 out s1 HH0.out w3 HPd3.out HR3.out (by omega) hc3 (Nat.le_refl _) (by omega)).mono ?_); rintro e w4 ⟨v, rfl, hown, hk4, hg4, hr4⟩
       have hbk := hown.block
       obtain ⟨A5, c5, rfl, hc5, hm5, hr5⟩ := Own.readsN hown HLen.out
       have HPd4 := kp hk4; have HR4 := kp hr4
       have HB4 := kp (HB3.out.grown hg4 hs3 (by intro k e; cases e; exact hg3))
       have hs4 := HB4.out.size; have hl4 := hk4.lt
       have hm55 : c5 ≤ 9223372036854775807 := by unfold maxLen at hm5; omega
       have hcv := cvr (c := c5) hr5
       clear hown hk4 hg4 hr4 hm5 hr5 hbk)
    | (go_at_call 15; go_must (refine (pc_readProgram g g A1 n c1 bs s1 HOk1.out d s2 HX.out w4 HPd4.out HR4.out HB.out hc3 HM3.out (Nat.le_refl _) (by omega)).mono ?_); rintro e w5 ⟨p, rfl, hpk, hpd, hps, hk5, hg5⟩
       have HPK := kp hpk; have HPd := kp hpd; have HPs := kp hps; have HRd5 := kp hk5
       have HB5 := kp (HB4.out.grown hg5 hs4 (by intro k e; cases e; exact hg3))
       have hs5 := HB5.out.size; have hs45 := hg5.size
       rw [pgA_is]
       clear hpk hpd hps hk5 hg5)
    | ((with_reducible show wpList _ _ _ (⟨some 6, _, _, _, _, _⟩ :: _) _ _); go_must (refine wpList_alloc_zero rfl 26 rfl _ pcp_zero ?_); intro g6 w6 hg6 hk6 hw6
       have HK6 := kp hk6; have HB6 := kp (HB5.out.trans (hw6.mono hs5)); have HRd6 := kp (HRd5.out.below hw6 HRd5.out.lt)
       have HH6 : Kept (Held (fun k => w4.heap.size ≤ k ∧ k < w5.heap.size) w5 w6) := kp (Held.of_below hw6 fun k h => h.2)
       have hs6 := HB6.out.size; have hl6 := hk6.lt; have hs56 := hw6.size; have hr5 := HRd5.out.lt
       clear hk6 hw6)
    | ((with_reducible show wpList _ _ _ (⟨none, _, _, _, _, _⟩ :: _) _ _); (refine wpList_store_blk rfl 26 (.tmp 6) (.tmp 30) rfl g6 (pgC p) rfl rfl _ _ HK6.out pg_size rfl (pcp_ones p) ?_); intro w7 hk7 hg7 hz7
       have HK7 := kp hk7; have HB7 := kp (HB6.out.grown hg7 hs6 (by intro k e; cases e; omega)); have HRd7 := kp (HRd6.out.grown hg7 (by intro e; cases e; omega))
       have HH7 := kp (HH6.out.trans (Held.of_grown hg7 fun k h => ⟨by omega, fun e => by cases e; omega⟩))
       have hs7 := HB7.out.size
       clear hk7 hg7)
    | (go_at_call 16; go_must (refine (pd_done g A1 n c1 s2 w7 HRd7.out HAt.out (by omega) s3 HEnd.out).mono ?_); rintro e w8 ⟨rfl, hk8, hg8⟩
       have HRd8 := kp hk8; have HB8 := kp (HB7.out.grown hg8 hs7 (by intro k e; cases e; exact hg3)); have HK8 := kp (HK7.out.grown hg8 (by intro e; cases e; omega))
       have HH8 := kp (HH7.out.trans (Held.of_grown hg8 fun k h => ⟨by omega, fun e => by cases e; omega⟩))
       have hs8 := HB8.out.size; have hs78 := hg8.size; have hl8 := hk8.lt
       clear hk8 hg8)
    | (go_at_call 17; go_must (refine (pd_fault g A1 n c1 s3 HFit.out w8 HRd8.out).mono ?_); rintro e w9 ⟨rfl, hb9⟩; have HB9 := kp (HB8.out.trans (hb9.mono hs8)); clear hb9)
    | ((with_reducible show wpList _ _ _ (⟨none, _, _, _, _, _⟩ :: _) _ _); (refine wpList_store_blk rfl 26 (.tmp 2) (.tmp 34) rfl gr (pgC pgNone) rfl rfl _ _ (HKa2.out.below HB9.out (by omega)) pg_size rfl (pcp_ones pgNone) ?_); intro wa hka hga hza
       have HKa := kp hka; have HGa := kp hga; have HKs := kp ((HKb2.out.below HB9.out hl2).grown hga (by intro e; cases e; omega))
       clear hka hga)
    | ((with_reducible show wpList _ _ _ (⟨none, _, _, _, _, _⟩ :: _) _ _); (refine wpList_store_blk rfl 29 (.tmp 3) (.tmp 36) rfl gs [.int .i64 (s3.wh : Int), .int .i64 (s3.why : Int)] rfl rfl _ _ HKs.out spot_size rfl (spot_ones _ _) ?_); intro wb hkb hgb hzb
       have HKbb := kp hkb; have HKab := kp (HKa.out.grown hgb (by intro e; cases e; omega))
       have HBb : Kept (Below w.heap.size w wb) := kp (((HW2.out.trans (HB9.out.mono (by omega))).grown HGa.out (by have := HB9.out.size; omega) (by intro k e; cases e; exact hgr)).grown hgb (by have := HB9.out.size; omega) (by intro k e; cases e; omega))
       have HGb := kp hgb
       clear hkb hgb))
  refine bodyPost_ret (results_blk2 (P := Try.prog) (fn := Try.f8) rfl _ _ gr gs 26 29 _ _ _ _ rfl rfl HKab.out HKbb.out Try.underlying26 rfl pg_size Try.underlying29 rfl spot_size) rfl ⟨pgNone, rfl, pgNone_ok _ _, rfl, rfl, HBb.out⟩

set_option maxRecDepth 1000000 in
set_option maxHeartbeats 8000000 in
/-- A fault on the way. -/
theorem pc_read_short (A : Option Addr) (n c : Nat) (bs : List Nat) (w : World) (hr : Row byteV w w.heap.size A n bs) (hb : ∀ x ∈ bs, x < 256) (hn : n ≤ 65536) (out : List Nat) (s1 : R.St) (h0 : C.h0 bs = (out, s1)) (hlen : out.length = 0) (hok : R.Ok bs s1) (d : C.PD) (s2 : R.St) (hx : C.rdPg bs s1 = (d, s2)) (hat : s2.at_ ≤ n) (s3 : R.St) (he : C.endOf n s2 = s3) (hfit : R.Fit s3) (hw : s3.why ≠ 0) :
    Calls Try.prog 8 #[.slice A n c] w (ReadPost w C.none_ s3.wh s3.why) := by
  unfold ReadPost
  have HR := kp hr; have HB := kp hb; have HH0 := kp h0; have HLen := kp hlen
  have HS0 : Kept (R.Ok bs C.s0) := kp ⟨Nat.zero_le _, Nat.zero_le _, by decide⟩
  clear hr hb h0 hlen
  have HOk1 := kp hok; have HX := kp hx; have HAt := kp hat
  have HEnd : Kept ((if s2.why = 0 ∧ s2.at_ < n then R.fail s2 7 else s2) = s3) := kp he
  clear hok hx hat he
  have HFit := kp hfit
  have hdw : decide (s3.why = 0) = false := decide_eq_false hw
  clear hfit hw
  go_enter Try.func8, Try.ntmps8
  go_wp2_with (first
    | ((with_reducible show wpList _ _ _ (⟨some 2, _, _, _, _, _⟩ :: _) _ _); go_must (refine wpList_alloc_zero rfl 26 rfl _ pcp_zero ?_); intro gr w1 hgr hk1 hw1; have HKa1 := kp hk1; have HW1 := kp hw1; have hs1 := hw1.size; have hl1 := hk1.lt; clear hk1 hw1)
    | ((with_reducible show wpList _ _ _ (⟨some 3, _, _, _, _, _⟩ :: _) _ _); go_must (refine wpList_alloc_zero rfl 29 rfl _ spot_zero ?_); intro gs w2 hgs hk2 hw2
       have HKb2 := kp hk2; have HKa2 := kp (HKa1.out.below hw2 hl1); have HW2 := kp (HW1.out.trans (hw2.mono hs1)); have hs2 := hw2.size; have hl2 := hk2.lt; have hbw := HW2.out.size
       have HR2 := kp (HR.out.below HW2.out)
       clear hk2 hw2)
    | (go_at_call 13; go_must (refine (pd_new w.heap.size A n c bs w2 HR2.out (by omega) (by omega)).mono ?_); rintro e w3 ⟨g, A1, c1, rfl, hg3, hk3, hr3, hc3, hm3, hb3⟩
       have HPd3 := kp hk3; have HR3 := kp hr3; have HM3 := kp hm3; have HB3 := kp hb3
       have hs3 := hb3.size; have hl3 := hk3.lt
       clear hk3 hr3 hm3 hb3)
    | (go_at_call 14; go_must (refine (pd_raw g g A1 n c1 bs C.s0 HS0.out 4 out s1 HH0.out w3 HPd3.out HR3.out (by omega) hc3 (Nat.le_refl _) (by omega)).mono ?_); rintro e w4 ⟨v, rfl, hown, hk4, hg4, hr4⟩
       have hbk := hown.block
       obtain ⟨A5, c5, rfl, hc5, hm5, hr5⟩ := Own.readsN hown HLen.out
       have HPd4 := kp hk4; have HR4 := kp hr4
       have HB4 := kp (HB3.out.grown hg4 hs3 (by intro k e; cases e; exact hg3))
       have hs4 := HB4.out.size; have hl4 := hk4.lt
       have hm55 : c5 ≤ 9223372036854775807 := by unfold maxLen at hm5; omega
       have hcv := cvr (c := c5) hr5
       clear hown hk4 hg4 hr4 hm5 hr5 hbk)
    | (go_at_call 15; go_must (refine (pc_readProgram g g A1 n c1 bs s1 HOk1.out d s2 HX.out w4 HPd4.out HR4.out HB.out hc3 HM3.out (Nat.le_refl _) (by omega)).mono ?_); rintro e w5 ⟨p, rfl, hpk, hpd, hps, hk5, hg5⟩
       have HPK := kp hpk; have HPd := kp hpd; have HPs := kp hps; have HRd5 := kp hk5
       have HB5 := kp (HB4.out.grown hg5 hs4 (by intro k e; cases e; exact hg3))
       have hs5 := HB5.out.size; have hs45 := hg5.size
       rw [pgA_is]
       clear hpk hpd hps hk5 hg5)
    | ((with_reducible show wpList _ _ _ (⟨some 6, _, _, _, _, _⟩ :: _) _ _); go_must (refine wpList_alloc_zero rfl 26 rfl _ pcp_zero ?_); intro g6 w6 hg6 hk6 hw6
       have HK6 := kp hk6; have HB6 := kp (HB5.out.trans (hw6.mono hs5)); have HRd6 := kp (HRd5.out.below hw6 HRd5.out.lt)
       have HH6 : Kept (Held (fun k => w4.heap.size ≤ k ∧ k < w5.heap.size) w5 w6) := kp (Held.of_below hw6 fun k h => h.2)
       have hs6 := HB6.out.size; have hl6 := hk6.lt; have hs56 := hw6.size; have hr5 := HRd5.out.lt
       clear hk6 hw6)
    | ((with_reducible show wpList _ _ _ (⟨none, _, _, _, _, _⟩ :: _) _ _); (refine wpList_store_blk rfl 26 (.tmp 6) (.tmp 30) rfl g6 (pgC p) rfl rfl _ _ HK6.out pg_size rfl (pcp_ones p) ?_); intro w7 hk7 hg7 hz7
       have HK7 := kp hk7; have HB7 := kp (HB6.out.grown hg7 hs6 (by intro k e; cases e; omega)); have HRd7 := kp (HRd6.out.grown hg7 (by intro e; cases e; omega))
       have HH7 := kp (HH6.out.trans (Held.of_grown hg7 fun k h => ⟨by omega, fun e => by cases e; omega⟩))
       have hs7 := HB7.out.size
       clear hk7 hg7)
    | (go_at_call 16; go_must (refine (pd_done g A1 n c1 s2 w7 HRd7.out HAt.out (by omega) s3 HEnd.out).mono ?_); rintro e w8 ⟨rfl, hk8, hg8⟩
       have HRd8 := kp hk8; have HB8 := kp (HB7.out.grown hg8 hs7 (by intro k e; cases e; exact hg3)); have HK8 := kp (HK7.out.grown hg8 (by intro e; cases e; omega))
       have HH8 := kp (HH7.out.trans (Held.of_grown hg8 fun k h => ⟨by omega, fun e => by cases e; omega⟩))
       have hs8 := HB8.out.size; have hs78 := hg8.size; have hl8 := hk8.lt
       clear hk8 hg8)
    | (go_at_call 17; go_must (refine (pd_fault g A1 n c1 s3 HFit.out w8 HRd8.out).mono ?_); rintro e w9 ⟨rfl, hb9⟩; have HB9 := kp (HB8.out.trans (hb9.mono hs8)); clear hb9)
    | ((with_reducible show wpList _ _ _ (⟨none, _, _, _, _, _⟩ :: _) _ _); (refine wpList_store_blk rfl 26 (.tmp 2) (.tmp 34) rfl gr (pgC pgNone) rfl rfl _ _ (HKa2.out.below HB9.out (by omega)) pg_size rfl (pcp_ones pgNone) ?_); intro wa hka hga hza
       have HKa := kp hka; have HGa := kp hga; have HKs := kp ((HKb2.out.below HB9.out hl2).grown hga (by intro e; cases e; omega))
       clear hka hga)
    | ((with_reducible show wpList _ _ _ (⟨none, _, _, _, _, _⟩ :: _) _ _); (refine wpList_store_blk rfl 29 (.tmp 3) (.tmp 36) rfl gs [.int .i64 (s3.wh : Int), .int .i64 (s3.why : Int)] rfl rfl _ _ HKs.out spot_size rfl (spot_ones _ _) ?_); intro wb hkb hgb hzb
       have HKbb := kp hkb; have HKab := kp (HKa.out.grown hgb (by intro e; cases e; omega))
       have HBb : Kept (Below w.heap.size w wb) := kp (((HW2.out.trans (HB9.out.mono (by omega))).grown HGa.out (by have := HB9.out.size; omega) (by intro k e; cases e; exact hgr)).grown hgb (by have := HB9.out.size; omega) (by intro k e; cases e; omega))
       have HGb := kp hgb
       clear hkb hgb))
  refine bodyPost_ret (results_blk2 (P := Try.prog) (fn := Try.f8) rfl _ _ gr gs 26 29 _ _ _ _ rfl rfl HKab.out HKbb.out Try.underlying26 rfl pg_size Try.underlying29 rfl spot_size) rfl ⟨pgNone, rfl, pgNone_ok _ _, rfl, rfl, HBb.out⟩

set_option maxRecDepth 1000000 in
set_option maxHeartbeats 8000000 in
/-- A program that may not be. -/
theorem pc_read_wrong (A : Option Addr) (n c : Nat) (bs : List Nat) (w : World) (hr : Row byteV w w.heap.size A n bs) (hb : ∀ x ∈ bs, x < 256) (hn : n ≤ 65536) (out : List Nat) (s1 : R.St) (h0 : C.h0 bs = (out, s1)) (hlen : out.length = 4) (hmk : out = C.mark) (hok : R.Ok bs s1) (d : C.PD) (s2 : R.St) (hx : C.rdPg bs s1 = (d, s2)) (hat : s2.at_ ≤ n) (s3 : R.St) (he : C.endOf n s2 = s3) (hw : s3.why = 0) (a b : Int) (ck : Nat) (hc : Q.check (C.pgOf d) = (a, b, ck)) (h0c : ck ≠ 0) :
    Calls Try.prog 8 #[.slice A n c] w (ReadPost w C.none_ n ck) := by
  unfold ReadPost
  have HR := kp hr; have HB := kp hb; have HH0 := kp h0; have HLen := kp hlen
  have HS0 : Kept (R.Ok bs C.s0) := kp ⟨Nat.zero_le _, Nat.zero_le _, by decide⟩
  clear hr hb h0 hlen
  have HOk1 := kp hok; have HX := kp hx; have HAt := kp hat
  have HEnd : Kept ((if s2.why = 0 ∧ s2.at_ < n then R.fail s2 7 else s2) = s3) := kp he
  clear hok hx hat he
  have hte := mark_is hmk
  have hdw : decide (s3.why = 0) = true := decide_eq_true hw
  have HC := kp hc
  clear hmk hw hc
  have hcb : ((ck : Int) != 0) = true := by rw [bne_iff_ne]; omega
  clear h0c
  go_enter Try.func8, Try.ntmps8
  go_wp2_with (first
    | ((with_reducible show wpList _ _ _ (⟨some 2, _, _, _, _, _⟩ :: _) _ _); go_must (refine wpList_alloc_zero rfl 26 rfl _ pcp_zero ?_); intro gr w1 hgr hk1 hw1; have HKa1 := kp hk1; have HW1 := kp hw1; have hs1 := hw1.size; have hl1 := hk1.lt; clear hk1 hw1)
    | ((with_reducible show wpList _ _ _ (⟨some 3, _, _, _, _, _⟩ :: _) _ _); go_must (refine wpList_alloc_zero rfl 29 rfl _ spot_zero ?_); intro gs w2 hgs hk2 hw2
       have HKb2 := kp hk2; have HKa2 := kp (HKa1.out.below hw2 hl1); have HW2 := kp (HW1.out.trans (hw2.mono hs1)); have hs2 := hw2.size; have hl2 := hk2.lt; have hbw := HW2.out.size
       have HR2 := kp (HR.out.below HW2.out)
       clear hk2 hw2)
    | (go_at_call 13; go_must (refine (pd_new w.heap.size A n c bs w2 HR2.out (by omega) (by omega)).mono ?_); rintro e w3 ⟨g, A1, c1, rfl, hg3, hk3, hr3, hc3, hm3, hb3⟩
       have HPd3 := kp hk3; have HR3 := kp hr3; have HM3 := kp hm3; have HB3 := kp hb3
       have hs3 := hb3.size; have hl3 := hk3.lt
       clear hk3 hr3 hm3 hb3)
    | (go_at_call 14; go_must (refine (pd_raw g g A1 n c1 bs C.s0 HS0.out 4 out s1 HH0.out w3 HPd3.out HR3.out (by omega) hc3 (Nat.le_refl _) (by omega)).mono ?_); rintro e w4 ⟨v, rfl, hown, hk4, hg4, hr4⟩
       have hbk := hown.block
       obtain ⟨A5, c5, rfl, hc5, hm5, hr5⟩ := Own.readsN hown HLen.out
       have HPd4 := kp hk4; have HR4 := kp hr4
       have HB4 := kp (HB3.out.grown hg4 hs3 (by intro k e; cases e; exact hg3))
       have hs4 := HB4.out.size; have hl4 := hk4.lt
       have hm55 : c5 ≤ 9223372036854775807 := by unfold maxLen at hm5; omega
       have hcv := cvr (c := c5) hr5
       clear hown hk4 hg4 hr4 hm5 hr5 hbk)
    | (go_at_call 15; go_must (refine (pc_readProgram g g A1 n c1 bs s1 HOk1.out d s2 HX.out w4 HPd4.out HR4.out HB.out hc3 HM3.out (Nat.le_refl _) (by omega)).mono ?_); rintro e w5 ⟨p, rfl, hpk, hpd, hps, hk5, hg5⟩
       have HPK := kp hpk; have HPd := kp hpd; have HPs := kp hps; have HRd5 := kp hk5
       have HB5 := kp (HB4.out.grown hg5 hs4 (by intro k e; cases e; exact hg3))
       have hs5 := HB5.out.size; have hs45 := hg5.size
       rw [pgA_is]
       clear hpk hpd hps hk5 hg5)
    | ((with_reducible show wpList _ _ _ (⟨some 6, _, _, _, _, _⟩ :: _) _ _); go_must (refine wpList_alloc_zero rfl 26 rfl _ pcp_zero ?_); intro g6 w6 hg6 hk6 hw6
       have HK6 := kp hk6; have HB6 := kp (HB5.out.trans (hw6.mono hs5)); have HRd6 := kp (HRd5.out.below hw6 HRd5.out.lt)
       have HH6 : Kept (Held (fun k => w4.heap.size ≤ k ∧ k < w5.heap.size) w5 w6) := kp (Held.of_below hw6 fun k h => h.2)
       have hs6 := HB6.out.size; have hl6 := hk6.lt; have hs56 := hw6.size; have hr5 := HRd5.out.lt
       clear hk6 hw6)
    | ((with_reducible show wpList _ _ _ (⟨none, _, _, _, _, _⟩ :: _) _ _); (refine wpList_store_blk rfl 26 (.tmp 6) (.tmp 30) rfl g6 (pgC p) rfl rfl _ _ HK6.out pg_size rfl (pcp_ones p) ?_); intro w7 hk7 hg7 hz7
       have HK7 := kp hk7; have HB7 := kp (HB6.out.grown hg7 hs6 (by intro k e; cases e; omega)); have HRd7 := kp (HRd6.out.grown hg7 (by intro e; cases e; omega))
       have HH7 := kp (HH6.out.trans (Held.of_grown hg7 fun k h => ⟨by omega, fun e => by cases e; omega⟩))
       have hs7 := HB7.out.size
       clear hk7 hg7)
    | (go_at_call 16; go_must (refine (pd_done g A1 n c1 s2 w7 HRd7.out HAt.out (by omega) s3 HEnd.out).mono ?_); rintro e w8 ⟨rfl, hk8, hg8⟩
       have HRd8 := kp hk8; have HB8 := kp (HB7.out.grown hg8 hs7 (by intro k e; cases e; exact hg3)); have HK8 := kp (HK7.out.grown hg8 (by intro e; cases e; omega))
       have HH8 := kp (HH7.out.trans (Held.of_grown hg8 fun k h => ⟨by omega, fun e => by cases e; omega⟩))
       have hs8 := HB8.out.size; have hs78 := hg8.size; have hl8 := hk8.lt
       clear hk8 hg8)
    | ((with_reducible show wpList _ _ _ (⟨some 38, _, _, _, _, _⟩ :: _) _ _); go_must (refine wpList_load_blk rfl 26 (.tmp 6) rfl g6 rfl _ (pgC p) _ HK8.out Try.underlying26 rfl pg_size ?_))
    | (go_at_call 18; rw [← pgA_is]; go_must (refine (prog_check w8.heap.size p w8 (HPK.out w8 HH8.out) (Nat.le_refl _) HPs.out a b ck (by rw [C.check_data (HPK.out w8 HH8.out).row.len, HPd.out]; exact HC.out)).mono ?_); rintro e w9 ⟨rfl, hb9⟩
       have HB9 := kp (HB8.out.trans (hb9.mono hs8)); have HK9 := kp (HK8.out.below hb9 HK8.out.lt); have HH9 := kp (HH8.out.trans (Held.of_below hb9 fun k h => by omega)); clear hb9)
    | ((with_reducible show wpList _ _ _ (⟨none, _, _, _, _, _⟩ :: _) _ _); (refine wpList_store_blk rfl 26 (.tmp 2) (.tmp 45) rfl gr (pgC pgNone) rfl rfl _ _ (HKa2.out.below HB9.out (by omega)) pg_size rfl (pcp_ones pgNone) ?_); intro wa hka hga hza
       have HKa := kp hka; have HGa := kp hga; have HKs := kp ((HKb2.out.below HB9.out hl2).grown hga (by intro e; cases e; omega))
       clear hka hga)
    | ((with_reducible show wpList _ _ _ (⟨none, _, _, _, _, _⟩ :: _) _ _); (refine wpList_store_blk rfl 29 (.tmp 3) (.tmp 49) rfl gs [.int .i64 (n : Int), .int .i64 (ck : Int)] rfl rfl _ _ HKs.out spot_size rfl (spot_ones _ _) ?_); intro wb hkb hgb hzb
       have HKbb := kp hkb; have HKab := kp (HKa.out.grown hgb (by intro e; cases e; omega))
       have HBb : Kept (Below w.heap.size w wb) := kp (((HW2.out.trans (HB9.out.mono (by omega))).grown HGa.out (by have := HB9.out.size; omega) (by intro k e; cases e; exact hgr)).grown hgb (by have := HB9.out.size; omega) (by intro k e; cases e; omega))
       have HGb := kp hgb
       clear hkb hgb))
  refine bodyPost_ret (results_blk2 (P := Try.prog) (fn := Try.f8) rfl _ _ gr gs 26 29 _ _ _ _ rfl rfl HKab.out HKbb.out Try.underlying26 rfl pg_size Try.underlying29 rfl spot_size) rfl ⟨pgNone, rfl, pgNone_ok _ _, rfl, rfl, HBb.out⟩

set_option maxRecDepth 1000000 in
set_option maxHeartbeats 8000000 in
/-- A program that may be. -/
theorem pc_read_fine (A : Option Addr) (n c : Nat) (bs : List Nat) (w : World) (hr : Row byteV w w.heap.size A n bs) (hb : ∀ x ∈ bs, x < 256) (hn : n ≤ 65536) (out : List Nat) (s1 : R.St) (h0 : C.h0 bs = (out, s1)) (hlen : out.length = 4) (hmk : out = C.mark) (hok : R.Ok bs s1) (d : C.PD) (s2 : R.St) (hx : C.rdPg bs s1 = (d, s2)) (hat : s2.at_ ≤ n) (s3 : R.St) (he : C.endOf n s2 = s3) (hw : s3.why = 0) (a b : Int) (hc : Q.check (C.pgOf d) = (a, b, 0)) :
    Calls Try.prog 8 #[.slice A n c] w (ReadPost w d 0 0) := by
  unfold ReadPost
  have HR := kp hr; have HB := kp hb; have HH0 := kp h0; have HLen := kp hlen
  have HS0 : Kept (R.Ok bs C.s0) := kp ⟨Nat.zero_le _, Nat.zero_le _, by decide⟩
  clear hr hb h0 hlen
  have HOk1 := kp hok; have HX := kp hx; have HAt := kp hat
  have HEnd : Kept ((if s2.why = 0 ∧ s2.at_ < n then R.fail s2 7 else s2) = s3) := kp he
  clear hok hx hat he
  have hte := mark_is hmk
  have hdw : decide (s3.why = 0) = true := decide_eq_true hw
  have HC := kp hc
  clear hmk hw hc
  go_enter Try.func8, Try.ntmps8
  go_wp2_with (first
    | ((with_reducible show wpList _ _ _ (⟨some 2, _, _, _, _, _⟩ :: _) _ _); go_must (refine wpList_alloc_zero rfl 26 rfl _ pcp_zero ?_); intro gr w1 hgr hk1 hw1; have HKa1 := kp hk1; have HW1 := kp hw1; have hs1 := hw1.size; have hl1 := hk1.lt; clear hk1 hw1)
    | ((with_reducible show wpList _ _ _ (⟨some 3, _, _, _, _, _⟩ :: _) _ _); go_must (refine wpList_alloc_zero rfl 29 rfl _ spot_zero ?_); intro gs w2 hgs hk2 hw2
       have HKb2 := kp hk2; have HKa2 := kp (HKa1.out.below hw2 hl1); have HW2 := kp (HW1.out.trans (hw2.mono hs1)); have hs2 := hw2.size; have hl2 := hk2.lt; have hbw := HW2.out.size
       have HR2 := kp (HR.out.below HW2.out)
       clear hk2 hw2)
    | (go_at_call 13; go_must (refine (pd_new w.heap.size A n c bs w2 HR2.out (by omega) (by omega)).mono ?_); rintro e w3 ⟨g, A1, c1, rfl, hg3, hk3, hr3, hc3, hm3, hb3⟩
       have HPd3 := kp hk3; have HR3 := kp hr3; have HM3 := kp hm3; have HB3 := kp hb3
       have hs3 := hb3.size; have hl3 := hk3.lt
       clear hk3 hr3 hm3 hb3)
    | (go_at_call 14; go_must (refine (pd_raw g g A1 n c1 bs C.s0 HS0.out 4 out s1 HH0.out w3 HPd3.out HR3.out (by omega) hc3 (Nat.le_refl _) (by omega)).mono ?_); rintro e w4 ⟨v, rfl, hown, hk4, hg4, hr4⟩
       have hbk := hown.block
       obtain ⟨A5, c5, rfl, hc5, hm5, hr5⟩ := Own.readsN hown HLen.out
       have HPd4 := kp hk4; have HR4 := kp hr4
       have HB4 := kp (HB3.out.grown hg4 hs3 (by intro k e; cases e; exact hg3))
       have hs4 := HB4.out.size; have hl4 := hk4.lt
       have hm55 : c5 ≤ 9223372036854775807 := by unfold maxLen at hm5; omega
       have hcv := cvr (c := c5) hr5
       clear hown hk4 hg4 hr4 hm5 hr5 hbk)
    | (go_at_call 15; go_must (refine (pc_readProgram g g A1 n c1 bs s1 HOk1.out d s2 HX.out w4 HPd4.out HR4.out HB.out hc3 HM3.out (Nat.le_refl _) (by omega)).mono ?_); rintro e w5 ⟨p, rfl, hpk, hpd, hps, hk5, hg5⟩
       have HPK := kp hpk; have HPd := kp hpd; have HPs := kp hps; have HRd5 := kp hk5
       have HB5 := kp (HB4.out.grown hg5 hs4 (by intro k e; cases e; exact hg3))
       have hs5 := HB5.out.size; have hs45 := hg5.size
       rw [pgA_is]
       clear hpk hpd hps hk5 hg5)
    | ((with_reducible show wpList _ _ _ (⟨some 6, _, _, _, _, _⟩ :: _) _ _); go_must (refine wpList_alloc_zero rfl 26 rfl _ pcp_zero ?_); intro g6 w6 hg6 hk6 hw6
       have HK6 := kp hk6; have HB6 := kp (HB5.out.trans (hw6.mono hs5)); have HRd6 := kp (HRd5.out.below hw6 HRd5.out.lt)
       have HH6 : Kept (Held (fun k => w4.heap.size ≤ k ∧ k < w5.heap.size) w5 w6) := kp (Held.of_below hw6 fun k h => h.2)
       have hs6 := HB6.out.size; have hl6 := hk6.lt; have hs56 := hw6.size; have hr5 := HRd5.out.lt
       clear hk6 hw6)
    | ((with_reducible show wpList _ _ _ (⟨none, _, _, _, _, _⟩ :: _) _ _); (refine wpList_store_blk rfl 26 (.tmp 6) (.tmp 30) rfl g6 (pgC p) rfl rfl _ _ HK6.out pg_size rfl (pcp_ones p) ?_); intro w7 hk7 hg7 hz7
       have HK7 := kp hk7; have HB7 := kp (HB6.out.grown hg7 hs6 (by intro k e; cases e; omega)); have HRd7 := kp (HRd6.out.grown hg7 (by intro e; cases e; omega))
       have HH7 := kp (HH6.out.trans (Held.of_grown hg7 fun k h => ⟨by omega, fun e => by cases e; omega⟩))
       have hs7 := HB7.out.size
       clear hk7 hg7)
    | (go_at_call 16; go_must (refine (pd_done g A1 n c1 s2 w7 HRd7.out HAt.out (by omega) s3 HEnd.out).mono ?_); rintro e w8 ⟨rfl, hk8, hg8⟩
       have HRd8 := kp hk8; have HB8 := kp (HB7.out.grown hg8 hs7 (by intro k e; cases e; exact hg3)); have HK8 := kp (HK7.out.grown hg8 (by intro e; cases e; omega))
       have HH8 := kp (HH7.out.trans (Held.of_grown hg8 fun k h => ⟨by omega, fun e => by cases e; omega⟩))
       have hs8 := HB8.out.size; have hs78 := hg8.size; have hl8 := hk8.lt
       clear hk8 hg8)
    | ((with_reducible show wpList _ _ _ (⟨some 38, _, _, _, _, _⟩ :: _) _ _); go_must (refine wpList_load_blk rfl 26 (.tmp 6) rfl g6 rfl _ (pgC p) _ HK8.out Try.underlying26 rfl pg_size ?_))
    | (go_at_call 18; rw [← pgA_is]; go_must (refine (prog_check w8.heap.size p w8 (HPK.out w8 HH8.out) (Nat.le_refl _) HPs.out a b 0 (by rw [C.check_data (HPK.out w8 HH8.out).row.len, HPd.out]; exact HC.out)).mono ?_); rintro e w9 ⟨rfl, hb9⟩
       have HB9 := kp (HB8.out.trans (hb9.mono hs8)); have HK9 := kp (HK8.out.below hb9 HK8.out.lt); have HH9 := kp (HH8.out.trans (Held.of_below hb9 fun k h => by omega)); clear hb9)
    | ((with_reducible show wpList _ _ _ (⟨some 50, _, _, _, _, _⟩ :: _) _ _); go_must (refine wpList_load_blk rfl 26 (.tmp 6) rfl g6 rfl _ (pgC p) _ HK9.out Try.underlying26 rfl pg_size ?_))
    | ((with_reducible show wpList _ _ _ (⟨none, _, _, _, _, _⟩ :: _) _ _); (refine wpList_store_blk rfl 26 (.tmp 2) (.tmp 50) rfl gr (pgC p) rfl rfl _ _ (HKa2.out.below HB9.out (by omega)) pg_size rfl (pcp_ones p) ?_); intro wa hka hga hza
       have HKa := kp hka; have HGa := kp hga; have HKs := kp ((HKb2.out.below HB9.out hl2).grown hga (by intro e; cases e; omega))
       clear hka hga)
    | ((with_reducible show wpList _ _ _ (⟨none, _, _, _, _, _⟩ :: _) _ _); (refine wpList_store_blk rfl 29 (.tmp 3) (.tmp 51) rfl gs [.int .i64 0, .int .i64 0] rfl rfl _ _ HKs.out spot_size rfl (spot_ones _ _) ?_); intro wb hkb hgb hzb
       have HKbb := kp hkb; have HKab := kp (HKa.out.grown hgb (by intro e; cases e; omega))
       have HBb : Kept (Below w.heap.size w wb) := kp (((HW2.out.trans (HB9.out.mono (by omega))).grown HGa.out (by have := HB9.out.size; omega) (by intro k e; cases e; exact hgr)).grown hgb (by have := HB9.out.size; omega) (by intro k e; cases e; omega))
       have HGb := kp hgb
       clear hkb hgb))
  have HHb : Kept (Held (fun k => w4.heap.size ≤ k ∧ k < w5.heap.size) w5 wb) := kp ((HH9.out.trans (Held.of_grown HGa.out fun k h => ⟨by have := HH9.out.size; omega, fun e => by cases e; omega⟩)).trans (Held.of_grown HGb.out fun k h => ⟨by have := HH9.out.size; omega, fun e => by cases e; omega⟩))
  refine bodyPost_ret (results_blk2 (P := Try.prog) (fn := Try.f8) rfl _ _ gr gs 26 29 _ _ _ _ rfl rfl HKab.out HKbb.out Try.underlying26 rfl pg_size Try.underlying29 rfl spot_size) rfl ⟨p, rfl, HPK.out _ HHb.out, HPd.out, HPs.out, HBb.out⟩
end Go.Proofs.Ytdnhfpphjpnklaa

