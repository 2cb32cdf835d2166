/- A function's nodes, as the program reads them, walked: readNodes. -/
import Derived.Test.YtdnhfpphjpnklaaPk10
import Derived.Test.YtdnhfpphjpnklaaPk3
import Derived.Test.YtdnhfpphjpnklaaProgRef5
namespace Go.Proofs.Ytdnhfpphjpnklaa
open Go.RowKit

/-- Nodes' cells, one behind the other. -/
def ndsC (l : List Nd) : List Value := l.flatMap ndC
theorem ndsC_cons (x : Nd) (l : List Nd) : ndsC (x :: l) = ndC x ++ ndsC l := rfl
theorem ndsC_app (l r : List Nd) : ndsC (l ++ r) = ndsC l ++ ndsC r := by simp [ndsC]
theorem ndsC_len (l : List Nd) : (ndsC l).length = l.length * 4 := by
  induction l with
  | nil => rfl
  | cons x l ih => rw [ndsC_cons, List.length_append, List.length_cons, ih]; show 4 + _ = _; omega
theorem ndC_at (x : Nd) {j : Nat} (hj : j < 4) : (ndC x)[j]? = some (ndV x j) := by
  have : j = 0 ∨ j = 1 ∨ j = 2 ∨ j = 3 := by omega
  rcases this with rfl | rfl | rfl | rfl <;> rfl
theorem ndsC_mid (l r : List Nd) (x : Nd) {j : Nat} (hj : j < 4) : (ndsC (l ++ x :: r))[l.length * 4 + j]? = some (ndV x j) := by
  rw [ndsC_app, List.getElem?_append_right (by rw [ndsC_len]; omega), ndsC_len, Nat.add_sub_cancel_left, ndsC_cons, List.getElem?_append_left (show j < (ndC x).length from hj), ndC_at x hj]
theorem ndsC_at {l : List Nd} {k : Nat} {x : Nd} (h : l[k]? = some x) {j : Nat} (hj : j < 4) : (ndsC l)[k * 4 + j]? = some (ndV x j) := by
  have hk := (List.getElem?_eq_some_iff.1 h).1
  have hl : l = l.take k ++ x :: l.drop (k + 1) := by
    have h2 : l.drop k = x :: l.drop (k + 1) := by
      rw [List.drop_eq_getElem_cons hk, (List.getElem?_eq_some_iff.1 h).2]
    rw [← h2, List.take_append_drop]
  have hlen : (l.take k).length = k := by rw [List.length_take]; omega
  have := ndsC_mid (l.take k) (l.drop (k + 1)) x hj
  rw [hlen, ← hl] at this
  exact this
theorem ndsC_zero (m : Nat) : List.replicate (m * 4) (Value.int .i64 0) = ndsC (List.replicate m ⟨0, 0, 0, 0⟩) := by
  induction m with
  | zero => rfl
  | succ m ih =>
    rw [List.replicate_succ, ndsC_cons, ← ih, show (m + 1) * 4 = m * 4 + 1 + 1 + 1 + 1 by omega]
    rfl
theorem set_mid {α : Type} (a b c : List α) (k : Nat) (v : α) (hk : k < b.length) : (a ++ (b ++ c)).set (a.length + k) v = a ++ (b.set k v ++ c) := by
  rw [List.set_append_right _ _ (by omega), Nat.add_sub_cancel_left, List.set_append_left _ _ hk]
theorem ndsC_kind (l r : List Nd) (x : Nd) (k : Int) : (ndsC (l ++ x :: r)).set (l.length * 4) (.int .i64 k) = ndsC (l ++ ⟨k, x.arg, x.next, x.alt⟩ :: r) := by
  rw [ndsC_app, ndsC_app, ndsC_cons, ndsC_cons]
  have := set_mid (ndsC l) (ndC x) (ndsC r) 0 (.int .i64 k) (show 0 < 4 by omega)
  rw [ndsC_len, Nat.add_zero] at this
  rw [this]; rfl
theorem ndsC_set (l r : List Nd) (x : Nd) {j : Nat} (hj : j ≤ 2) (v : Int) : (ndsC (l ++ x :: r)).set (l.length * 4 + (j + 1)) (.int .i64 v) = ndsC (l ++ C.set x j v :: r) := by
  rw [ndsC_app, ndsC_app, ndsC_cons, ndsC_cons]
  have := set_mid (ndsC l) (ndC x) (ndsC r) (j + 1) (.int .i64 v) (show j + 1 < 4 by omega)
  rw [ndsC_len] at this
  rw [this]
  have : j = 0 ∨ j = 1 ∨ j = 2 := by omega
  rcases this with rfl | rfl | rfl <;> rfl
/-- A block of nodes as a slice of them. -/
theorem Blk.nodes {w : World} {g B : Nat} {t : TypeId} {l : List Nd} (h : Blk w g t (ndsC l)) (hg : g < B) (hok : ∀ x ∈ l, x.Ok) {n : Nat} (hn : l.length = n) : Nodes w B (some ⟨g, 0, none⟩) n l :=
  ⟨⟨hn, fun _ => ⟨_, rfl, hg, fun k x hx j hj => by rw [add_start, h.cell, ndsC_at hx hj]⟩⟩, hok⟩
theorem rep_on {α : Type} (z : α) {m i : Nat} (h : i < m) : List.replicate (m - i) z = z :: List.replicate (m - (i + 1)) z := by
  rw [show m - i = (m - (i + 1)) + 1 by omega, List.replicate_succ]
theorem node_info : (Try.prog.info? 42).map (fun i => (i.zero, i.size, i.bytes)) = some (some (.agg (ndC ⟨0, 0, 0, 0⟩).toArray), 4, 32) := by kernel_rfl

/-- Only one block more has turned, a new one. -/
theorem grown_new {w w1 w2 : World} {row : Option Nat} {g : Nat} (h : w.grownBy w1 row) (k : w1.grownBy w2 (some g)) (hg : w.heap.size ≤ g) : w.grownBy w2 row :=
  ⟨k.os.trans h.os, k.tape.trans h.tape, k.output.trans h.output, Nat.le_trans h.size k.size, fun i hi hne => (k.block i (Nat.lt_of_lt_of_le hi h.size) (by intro e; cases e; omega)).trans (h.block i hi hne)⟩

set_option maxRecDepth 1000000 in
set_option maxHeartbeats 8000000 in
theorem pc_readNodes (g B : Nat) (A : Option Addr) (n c : Nat) (bs : List Nat) (s : R.St) (hs : R.Ok bs s) (lf : List Nd) (s' : R.St) (hx : C.rdFn bs s = (lf, s')) (w : World) (hk : Pd w g A n c s)
    (hr : Row byteV w B A n bs) (hb : ∀ x ∈ bs, x < 256) (hnc : n ≤ c) (hm : c ≤ maxLen) (hBg : B ≤ g) (hBw : B ≤ w.heap.size) :
    Calls Try.prog 32 #[.pointer (some ⟨g, 0, none⟩)] w fun e w' => ∃ g2, e = .returned (.slice (some ⟨g2, 0, none⟩) lf.length lf.length) ∧ Blk w' g2 42 (ndsC lf) ∧ w.heap.size ≤ g2 ∧ Pd w' g A n c s' ∧ w.grownBy w' (some g) := by
  obtain ⟨m, s1, h1⟩ : ∃ m s1, R.num bs s 64 = (m, s1) := ⟨_, _, rfl⟩
  have hm64 : m ≤ 64 := by have := R.num_le (bs := bs) (s := s) (most := 64) (by omega); rw [h1] at this; omega
  have hok1 := (R.num_ok hb hs 64).1
  rw [h1] at hok1
  have HX : Kept (C.rdNds bs m [] s1 = (lf, s')) := kp (by unfold C.rdFn at hx; rw [h1] at hx; exact hx)
  have HLf : Kept (lf.length = m) := kp (by have := C.rdNds_len bs m [] s1; rw [HX.out] at this; simpa using this)
  have HNum : Kept (∀ (t : R.St), R.Ok bs t → ∀ (most : Int) (x : Nat) (t' : R.St), R.num bs t most = (x, t') → ∀ W, Pd W g A n c t → w.grownBy W (some g) →
      Calls Try.prog 31 #[.pointer (some ⟨g, 0, none⟩), .int .i64 most] W fun r w' => r = .returned (.int .i64 (x : Int)) ∧ Pd w' g A n c t' ∧ W.grownBy w' (some g) ∧ w.grownBy w' (some g)) := kp fun t ht most x t' hx W hW hg =>
    (pd_num g B A n c bs t ht most x t' hx W hW (hr.turned hg hBw hBg) hb hnc hm hBg (Nat.le_trans hBw hg.size)).mono fun r w' ⟨a1, a2, a3, _⟩ => ⟨a1, a2, a3, grown_trans hg a3⟩
  have HNk : Kept (∀ (t : R.St) (most : Int) (x : Nat) (t' : R.St), R.num bs t most = (x, t') → R.Ok bs t → R.Ok bs t') := kp fun t most x t' hx ht => by
    have := (R.num_ok hb ht most).1
    rw [hx] at this; exact this
  have HK := kp hk; have HS := kp hs; have H1 := kp h1; have HOk1 := kp hok1
  have hgl := hk.lt
  clear hk hs h1 hok1 hx hr hb hm
  go_enter Try.func32, Try.ntmps32
  go_wp2_with (first
    | (go_at_call 31; go_must (refine (HNum.out s HS.out 64 m s1 H1.out w HK.out (grown_refl _ _)).mono ?_); rintro e w1 ⟨rfl, hk1, hg1, _⟩; have HK1 := kp hk1; have HG1 := kp hg1; have hs1 := hg1.size; clear hk1 hg1)
    | ((with_reducible show wpList _ _ _ (⟨some 10, _, _, _, _, _⟩ :: _) _ _); go_must (refine wpList_make_rep rfl 43 (.tmp 9) (.tmp 9) rfl 42 _ (.int .i64 0) 4 32 Try.underlying43 node_info rfl (by omega) .i64 .i64 m m rfl rfl (Nat.le_refl _) (by omega) (by omega) ?_); intro g3 w3 hg3 hk3 hw3
       rw [ndsC_zero] at hk3
       have HK3 := kp hk3
       have HPd3 := kp (HK1.out.below hw3 HK1.out.lt)
       have HG3 := kp (grown_below HG1.out hw3)
       have hne3 : some g3 ≠ some g := by intro e; cases e; omega
       clear hk3 hw3))
  go_loopw [13] (fun v13 wr => ∃ (i : Nat) (l : List Nd) (t : R.St), i ≤ m ∧ v13 = .int .i64 i ∧ l.length = i ∧ C.rdNds bs (m - i) l t = (lf, s') ∧ R.Ok bs t ∧ Pd wr g A n c t ∧ Blk wr g3 42 (ndsC (l ++ List.replicate (m - i) ⟨0, 0, 0, 0⟩)) ∧ w.grownBy wr (some g)) (fun v13 _ => m - (intOf v13).toNat)
  case atStart => exact ⟨0, [], s1, by omega, rfl, rfl, HX.out, HOk1.out, HPd3.out, HK3.out, HG3.out⟩
  case round =>
    clear HK3 HPd3 HG3 HX HOk1
    obtain ⟨i, l, t, hi, rfl, hll, hrd, hok, hpd, hblk, hgr⟩ := hrel
    have HLl := kp hll; have HRd := kp hrd; have HOk := kp hok; have HPd := kp hpd; have HBlk := kp hblk; have HGr := kp hgr
    have hsr := hgr.size
    clear hll hrd hok hpd hblk hgr
    by_cases hlt : i < m
    · obtain ⟨k, t1, hk1⟩ : ∃ k t1, R.num bs t 9 = (k, t1) := ⟨_, _, rfl⟩
      obtain ⟨xf, t2, hxf⟩ : ∃ xf t2, C.rdNd bs t = (xf, t2) := ⟨_, _, rfl⟩
      have HN9 := kp hk1
      have HRF : Kept (C.rdF bs (C.tl (k : Int)) (C.nd0 k) t1 = (xf, t2)) := kp (by unfold C.rdNd at hxf; rw [hk1] at hxf; exact hxf)
      have HNext : Kept (C.rdNds bs (m - (i + 1)) (l ++ [xf]) t2 = (lf, s')) := kp (by
        have h := HRd.out
        rw [show m - i = (m - (i + 1)) + 1 by omega] at h
        unfold C.rdNds at h
        rw [hxf] at h
        exact h)
      have HOk1 := kp (HNk.out _ _ _ _ hk1 HOk.out)
      obtain ⟨js, hjs⟩ : ∃ js, C.tl (k : Int) = js := ⟨_, rfl⟩
      obtain ⟨nj, hnj⟩ : ∃ nj, js.length = nj := ⟨_, rfl⟩
      have HJ := kp hjs; have HNj := kp hnj
      have hnj3 : nj ≤ 3 := by rw [← hnj, ← hjs]; exact C.tl_len _
      have HLe : Kept (∀ j ∈ js, j ≤ 2) := kp (by rw [← hjs]; exact C.tl_le _)
      rw [hjs] at HRF
      have HB1 : Kept (Blk wr g3 42 (ndsC (l ++ ⟨0, 0, 0, 0⟩ :: List.replicate (m - (i + 1)) ⟨0, 0, 0, 0⟩))) := kp (by have h := HBlk.out; rw [rep_on _ hlt] at h; exact h)
      obtain ⟨rest, hrest⟩ : ∃ rest, List.replicate (m - (i + 1)) (⟨0, 0, 0, 0⟩ : Nd) = rest := ⟨_, rfl⟩
      have HRest := kp hrest
      rw [hrest] at HB1
      obtain ⟨o, ho⟩ : ∃ o, i * 4 = o := ⟨_, rfl⟩
      have HO := kp ho
      have HLo : Kept (l.length * 4 = o) := kp (by rw [HLl.out]; exact ho)
      clear hk1 hxf hjs hnj hrest HBlk HRd
      go_wp2_with (first
        | (go_at_call 31; go_must (refine (HNum.out t HOk.out 9 k t1 HN9.out wr HPd.out HGr.out).mono ?_); rintro e w4 ⟨rfl, hk4, hg4, hgw4⟩; have HPd4 := kp hk4; have HG4 := kp hgw4; have HB4 := kp (HB1.out.grown hg4 hne3); have hfz := HB4.out.frozen o; have hcz : w4.cell? ⟨g3, o, none⟩ = some (.int .i64 0) := (by have h := ndsC_mid l rest ⟨0, 0, 0, 0⟩ (j := 0) (by omega); rw [Nat.add_zero, HLo.out] at h; rw [HB4.out.cell, h]; rfl); clear hk4 hg4 hgw4)
        | (go_at_call 41
           have hk5 := HB4.out.set o (.int .i64 (k : Int))
           rw [← HLo.out, ndsC_kind, HLo.out] at hk5
           have HB5 : Kept (Blk (w4.setCell ⟨g3, o, none⟩ (.int .i64 (k : Int))) g3 42 (ndsC (l ++ C.nd0 k :: rest))) := kp hk5
           have HPd5 : Kept (Pd (w4.setCell ⟨g3, o, none⟩ (.int .i64 (k : Int))) g A n c t1) := kp (HPd4.out.grown (grown_set (grown_refl _ _)) (fun e => hne3 e.symm))
           have HG5 : Kept (w.grownBy (w4.setCell ⟨g3, o, none⟩ (.int .i64 (k : Int))) (some g)) := kp (grown_new HG4.out (grown_set (grown_refl _ _)) (by omega))
           generalize w4.setCell ⟨g3, o, none⟩ (.int .i64 (k : Int)) = w5 at *
           have hck : w5.cell? ⟨g3, o, none⟩ = some (.int .i64 (k : Int)) := by
             have h := ndsC_mid l rest (C.nd0 k) (j := 0) (by omega)
             rw [Nat.add_zero, HLo.out] at h
             rw [HB5.out.cell, h]; rfl
           have hs5 := HG5.out.size
           clear hk5 hcz hfz
           go_must (refine (pc_told g3 o (k : Int) w5 hck).mono ?_); rintro e w6 ⟨v, rfl, hown, hb6⟩
           rw [HJ.out] at hown
           obtain ⟨A6, c6, rfl, hc6, hm6, hr6, ha6⟩ := hown.readsB HNj.out
           have HR6 := kp hr6; have HA6 := kp ha6
           have hm66 : c6 ≤ 9223372036854775807 := by unfold maxLen at hm6; omega
           have HB6 := kp (HB5.out.below hb6 HB5.out.lt)
           have HPd6 := kp (HPd5.out.below hb6 HPd5.out.lt)
           have HG6 := kp (grown_below HG5.out hb6)
           have hs6 := hb6.size
           have hl6 := HB5.out.lt
           have hp6 := HPd5.out.lt
           clear hown hb6 hr6 hm6 ha6 hck))
      go_loopw [27] (fun v27 wq => ∃ (q : Nat) (x : Nd) (t : R.St), q ≤ nj ∧ v27 = .int .i64 q ∧ C.rdF bs (js.drop q) x t = (xf, t2) ∧ R.Ok bs t ∧ Pd wq g A n c t ∧ Blk wq g3 42 (ndsC (l ++ x :: rest)) ∧ w.grownBy wq (some g) ∧ Held (fun k => w5.heap.size ≤ k ∧ k < w6.heap.size) w6 wq) (fun v27 _ => nj - (intOf v27).toNat)
      case atStart => exact ⟨0, C.nd0 k, t1, by omega, rfl, HRF.out, HOk1.out, HPd6.out, HB6.out, HG6.out, Held.refl _ _⟩
      case round =>
        clear HB6 HPd6 HG6 HRF HOk1 HB1 HPd HGr HB4 HPd4 HG4 HB5 HPd5 HG5 hsr
        obtain ⟨q, x, t, hq, rfl, hrd, hok, hpd, hblk, hgr, hhd⟩ := hrel
        have HRd := kp hrd; have HOkq := kp hok; have HPdq := kp hpd; have HBq := kp hblk; have HGq := kp hgr; have HHq := kp hhd
        have hzq := hhd.size
        clear hrd hok hpd hblk hgr hhd
        by_cases hlq : q < nj
        · obtain ⟨ad, j, rfl, hab, hxj, hcj⟩ := (HR6.out.heldAt HHq.out fun a _ e => HA6.out a e).get hlq
          have hj2 := HLe.out j (List.mem_of_getElem? hxj)
          rw [fldP_at] at hcj
          obtain ⟨y, t3, hy⟩ : ∃ y t3, R.num bs t 64 = (y, t3) := ⟨_, _, rfl⟩
          have HN := kp hy
          have HOk3 := kp (HNk.out _ _ _ _ hy HOkq.out)
          have HRd3 : Kept (C.rdF bs (js.drop (q + 1)) (C.set x j (y : Int)) t3 = (xf, t2)) := kp (by
            have h := HRd.out
            rw [List.drop_eq_getElem_cons (by rw [HNj.out]; exact hlq), (List.getElem?_eq_some_iff.1 hxj).2] at h
            unfold C.rdF at h
            rw [hy] at h
            exact h)
          obtain ⟨oj, hoj⟩ : ∃ oj, o + (j + 1) = oj := ⟨_, rfl⟩
          have HOj := kp hoj
          rw [hoj] at hcj
          clear hxj hy hoj HRd
          go_wp2_with (first
            | (go_at_call 31; go_must (refine (HNum.out t HOkq.out 64 y t3 HN.out wr HPdq.out HGq.out).mono ?_); rintro e w7 ⟨rfl, hk7, hg7, hgw7⟩; have HPd7 := kp hk7; have HG7 := kp hgw7; have HB7 := kp (HBq.out.grown hg7 hne3); have HH7 := kp (HHq.out.trans (Held.of_grown hg7 fun k h => ⟨by omega, fun e => by cases e; omega⟩)); have hfz7 := HB7.out.frozen oj; have hcz7 : w7.cell? ⟨g3, oj, none⟩ = some (ndV x (j + 1)) := (by have h := ndsC_mid l rest x (j := j + 1) (by omega); rw [HLo.out, HOj.out] at h; rw [HB7.out.cell, h]); clear hk7 hg7 hgw7))
          have hk8 := HB7.out.set oj (.int .i64 (y : Int))
          rw [← HOj.out, ← HLo.out, ndsC_set l rest x hj2, HLo.out, HOj.out] at hk8
          have HB8 : Kept (Blk (w7.setCell ⟨g3, oj, none⟩ (.int .i64 (y : Int))) g3 42 (ndsC (l ++ C.set x j (y : Int) :: rest))) := kp hk8
          have HPd8 : Kept (Pd (w7.setCell ⟨g3, oj, none⟩ (.int .i64 (y : Int))) g A n c t3) := kp (HPd7.out.grown (grown_set (grown_refl _ _)) (fun e => hne3 e.symm))
          have HG8 : Kept (w.grownBy (w7.setCell ⟨g3, oj, none⟩ (.int .i64 (y : Int))) (some g)) := kp (grown_new HG7.out (grown_set (grown_refl _ _)) (by omega))
          have HH8 : Kept (Held (fun k => w5.heap.size ≤ k ∧ k < w6.heap.size) w6 (w7.setCell ⟨g3, oj, none⟩ (.int .i64 (y : Int)))) := kp (HH7.out.trans (Held.of_grown (grown_set (grown_refl _ (some g3))) fun k h => ⟨by have := HH7.out.size; omega, fun e => by cases e; omega⟩))
          generalize w7.setCell ⟨g3, oj, none⟩ (.int .i64 (y : Int)) = w8 at *
          clear hk8 hcz7 hfz7 hcj
          go_roundw
          case rel => exact ⟨q + 1, C.set x j (y : Int), t3, by omega, by go_num, HRd3.out, HOk3.out, HPd8.out, HB8.out, HG8.out, HH8.out⟩
          case measure => simp [intOf]; omega
        · have hqn : nj ≤ q := by omega
          have HE : Kept (x = xf ∧ t = t2) := kp (by
            have h := HRd.out
            rw [List.drop_eq_nil_of_le (by rw [HNj.out]; exact hqn)] at h
            exact ⟨(Prod.mk.inj h).1, (Prod.mk.inj h).2⟩)
          clear hlq
          go_wp2
          go_roundw
          case rel =>
            obtain ⟨e1, e2⟩ := HE.out
            refine ⟨i + 1, l ++ [xf], t2, by omega, by go_num, by rw [List.length_append, HLl.out]; rfl, HNext.out, by rw [← e2]; exact HOkq.out, by rw [← e2]; exact HPdq.out, ?_, HGq.out⟩
            have h := HBq.out
            rw [e1] at h
            rw [List.append_assoc, HRest.out]
            exact h
          case measure => simp [intOf]; omega
    · have hmi : m - i = 0 := by omega
      have hE : l = lf ∧ t = s' := by
        have h := HRd.out
        rw [hmi] at h
        exact ⟨(Prod.mk.inj h).1, (Prod.mk.inj h).2⟩
      obtain ⟨e1, e2⟩ := hE
      have HE1 := kp e1; have HE2 := kp e2
      clear hlt e1 e2
      go_wp2
      go_ret
      refine ⟨g3, by rw [HLf.out]; rfl, ?_, by omega, by rw [← HE2.out]; exact HPd.out, HGr.out⟩
      have h := HBlk.out
      rw [hmi, List.replicate_zero, List.append_nil, HE1.out] at h
      exact h
end Go.Proofs.Ytdnhfpphjpnklaa
