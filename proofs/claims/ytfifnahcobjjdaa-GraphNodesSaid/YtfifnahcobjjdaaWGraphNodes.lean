/- GraphNodes, walked. -/
import Derived.Test.YtfifnahcobjjdaaGraphLaw1
import Derived.Deep.QuietTactic
import Derived.BigQuiet
namespace Go.Proofs.Ytfifnahcobjjdaa
open Go.RowKit

theorem ref_succ_one (x : Nd) (w : World) (s : List Int) (hs : Q.succ x = s) :
    Calls Try.prog 13 #[ndA x] w fun e w' => ∃ v, e = .returned v ∧ Own w' w.heap.size 3 v (s.map intV) ∧ Below w.heap.size w w' := by
  subst hs
  exact ref_succ x w
theorem outB_congr {o o' : Nat → Bool} {n : Nat} (h : ∀ i, i < n → o i = o' i) : outB o n = outB o' n := by
  unfold outB
  exact List.map_congr_left fun g hg => by rw [h g (List.mem_range.1 hg)]

set_option maxRecDepth 1000000 in
set_option maxHeartbeats 8000000 in
theorem walkGraphNodes (f0 : Fn) (a1 : Option Addr) (len1 cap1 : Nat) (z1 : List Int) (w : World) (w0 : f0.Ok w w.heap.size) (w1 : IsRow .i64 w a1 len1 cap1 z1) :
    Calls Try.prog 4 #[.slice f0.A f0.len f0.cap, .slice a1 len1 cap1] w fun e w' => e = .returned (.bool true) ∧ Below w.heap.size w w' := by
  obtain ⟨l1, hr, _, hm, hlc, hcm⟩ := w1.ints
  have HF := kp w0; have HR1 := kp hr
  have hfc := w0.lc; have hfm := w0.cm
  have HFl := kp w0.nodes.1.len
  unfold maxLen at hm hcm hfm
  clear w0 w1 hr
  by_cases hbig : 100 < f0.len
  · have hgt : decide ((100 : Int) < (f0.len : Int)) = true := by simp; omega
    go_enter Try.func4, Try.ntmps4
    go_wp2_with fail
    refine (awake_any w).mono ?_
    rintro e w1 ⟨rfl, hb1⟩
    have HW1 := kp hb1
    have hs1 := hb1.size
    clear hb1
    go_wp2_with fail
    refine (awake_any w1).mono ?_
    rintro e w9 ⟨rfl, hb9⟩
    have HW9 := kp (HW1.out.trans (hb9.mono hs1))
    clear hb9
    go_wp2
    go_ret
    exact ⟨rfl, HW9.out⟩
  · have hng : decide ((100 : Int) < (f0.len : Int)) = false := by simp; omega
    by_cases hbig1 : 100 < len1
    · have hgt : decide ((100 : Int) < (len1 : Int)) = true := by simp; omega
      go_enter Try.func4, Try.ntmps4
      go_wp2_with fail
      refine (awake_any w).mono ?_
      rintro e w1 ⟨rfl, hb1⟩
      have HW1 := kp hb1
      have hs1 := hb1.size
      clear hb1
      go_wp2_with fail
      refine (awake_any w1).mono ?_
      rintro e w9 ⟨rfl, hb9⟩
      have HW9 := kp (HW1.out.trans (hb9.mono hs1))
      clear hb9
      go_wp2
      go_ret
      exact ⟨rfl, HW9.out⟩
    · have hng1 : decide ((100 : Int) < (len1 : Int)) = false := by simp; omega
      go_enter Try.func4, Try.ntmps4
      go_wp2_with fail
      refine (awake_any w).mono ?_
      rintro e w1 ⟨rfl, hb1⟩
      have HW1 := kp hb1
      have hs1 := hb1.size
      clear hb1
      go_wp2_with fail
      refine (graph_edges _ f0.A f0.len f0.cap f0.nodes w1 (HF.out.keep fun _ hp => HW1.out.cell hp).nodes (by omega) hs1).mono ?_
      rintro e w2 ⟨Ae, ne, ce, rfl, hne1, hne2, hre, hb2⟩
      have HW2 : Kept (Below w.heap.size w w2) := kp (HW1.out.trans (hb2.mono hs1))
      have hs2 := HW2.out.size
      unfold maxLen at hne2
      have HRe := kp hre
      have HEl := kp hre.len
      clear hb2 hre
      go_wp2
      go_loopw [6, 7] (fun v6 v7 wr => ∃ (i N : Nat), i ≤ f0.len ∧ v7 = .int .i64 i ∧ v6 = .int .i64 N ∧ (edgesL (f0.nodes.take i)).length = N ∧ Below w2.heap.size w2 wr) (fun _ v7 _ => f0.len - (intOf v7).toNat)
      case atStart => exact ⟨0, 0, by omega, rfl, rfl, rfl, Below.refl _ _⟩
      case round =>
        obtain ⟨i, N, hi, rfl, rfl, hN, hbl⟩ := hrel
        have HN := kp hN; have HBL := kp hbl
        have hszr := hbl.size
        clear hN hbl
        by_cases hlt : i < f0.len
        · obtain ⟨bd, x, e3, hbb, hy, hxok, hn0, hn1, hn2, hn3⟩ := (HF.out.keep (w' := wr) fun _ hp => (HW2.out.trans (HBL.out.mono hs2)).cell hp).nodes.get hlt
          rw [e3]
          have HY := kp hy
          have HXi := kp (succ_i64 hxok)
          have HE3 := kp e3
          obtain ⟨s, hs⟩ : ∃ s, Q.succ x = s := ⟨_, rfl⟩
          obtain ⟨ns, hns⟩ : ∃ n, s.length = n := ⟨_, rfl⟩
          have hns2 : ns ≤ 2 := by rw [← hns, ← hs]; exact succ_len2 x
          have HS := kp hs; have HNs := kp hns
          have HEdge : Kept (∀ k y, s[k]? = some y → (edgesL f0.nodes)[N + k]? = some (i, y)) := kp fun k y hk => by
            rw [← HN.out]
            exact edges_at HY.out (by rw [HS.out]; exact hk)
          have HNext : Kept ((edgesL (f0.nodes.take (i + 1))).length = N + ns) := kp (by
            rw [edges_snoc HY.out, List.length_append, HN.out, ← HNs.out, ← HS.out]
            simp [edgesOf])
          clear hy hs hns e3
          go_wp2_with fail
          refine (ref_succ_one x wr s HS.out).mono ?_
          rintro e w3 ⟨v3, rfl, hown3, hb3⟩
          obtain ⟨A3, c3, rfl, hc31, hc32, hr3⟩ := hown3.readsN HNs.out
          have HR3 := kp hr3
          have HB3 : Kept (Below w2.heap.size w2 w3) := kp (HBL.out.trans (hb3.mono hszr))
          have hs3 := HB3.out.size
          unfold maxLen at hc32
          clear hown3 hr3 hb3 hn0 hn1 hn2 hn3
          go_wp2
          go_loopw [6, 9] (fun v6 v9 wq => ∃ (k M : Nat), k ≤ ns ∧ v9 = .int .i64 k ∧ v6 = .int .i64 M ∧ M = N + k ∧ Below w3.heap.size w3 wq) (fun _ v9 _ => ns - (intOf v9).toNat)
          case atStart => exact ⟨0, N, by omega, rfl, rfl, rfl, Below.refl _ _⟩
          case round =>
            obtain ⟨k, M, hk, rfl, rfl, hM, hbq⟩ := hrel
            have HM := kp hM; have HBq := kp hbq
            clear hM
            by_cases hkn : k < ns
            · obtain ⟨ad3, y, e4, _, hy3, hcy⟩ := (HR3.out.below hbq).get hkn
              have hed := HEdge.out k y hy3
              rw [← HM.out] at hed
              have hMn : M < ne := by
                have h := (List.getElem?_eq_some_iff.1 hed).1
                rw [HEl.out] at h
                exact h
              obtain ⟨ade, ed, e5, _, hed2, hg0, hg1⟩ := (HRe.out.below (HB3.out.trans (hbq.mono hs3))).field hMn
              rw [hed] at hed2
              cases hed2
              have hf0 : wr.cell? (ade.add (M * 2)) = some (.int .i64 (i : Int)) := hg0 (by omega)
              have hf1 : wr.cell? ⟨(ade.add (M * 2)).block, (ade.add (M * 2)).off + 1, none⟩ = some (.int .i64 y) := hg1 1 (by omega) (by omega)
              have hcy' : wr.cell? (ad3.add k) = some (.int .i64 y) := hcy
              have hb1 : decide ((ne : Int) ≤ (M : Int)) = false := by simp; omega
              have hb2 : ((i : Int) != (i : Int)) = false := by simp
              have hb3 : (y != y) = false := by simp
              subst e4; subst e5
              have HMn : Kept (M + 1 = N + (k + 1)) := kp (by have := HM.out; omega)
              clear hbq hcy hy3 hed hg0 hg1
              go_wp2
              go_quiet (fail)
              go_wp2
              go_roundw
              case rel => exact ⟨k + 1, M + 1, by omega, by go_num, by go_num, HMn.out, below_drewN HBq.out _⟩
              case measure => simp [intOf]; omega
            · have hke : k = ns := by omega
              have HMe : Kept ((edgesL (f0.nodes.take (i + 1))).length = M) := kp (by rw [HNext.out, HM.out, hke])
              have hge : ns ≤ k := by omega
              have hdb : decide ((k : Int) < (ns : Int)) = false := by simp; omega
              have hdb2 : decide (k < ns) = false := by simp; omega
              clear hkn hke hbq hge
              go_wp2
              go_roundw
              case rel => exact ⟨i + 1, M, by omega, by go_num, rfl, HMe.out, HB3.out.trans (HBq.out.mono hs3)⟩
              case measure => simp [intOf]; omega
        · have hge : f0.len ≤ i := by omega
          have HNe : Kept (N = ne) := kp (by
            have h := HN.out
            rw [List.take_of_length_le (by rw [HFl.out]; omega), HEl.out] at h
            exact h.symm)
          have hdb : decide (i < f0.len) = false := by simp; omega
          have HWr := kp (HW2.out.trans (HBL.out.mono hs2))
          have hsr := HWr.out.size
          clear hlt hge
          go_wp2_with fail
          refine (graph_after _ f0.A f0.len f0.cap f0.nodes a1 len1 cap1 l1 wr (HF.out.keep fun _ hp => HWr.out.cell hp).nodes (HR1.out.below HWr.out) (by omega) (by omega) hsr).mono ?_
          rintro e w4 ⟨v4, o4, rfl, ho4, hown4, hb4⟩
          obtain ⟨A4, c4, rfl, hc41, hc42, hr4, _⟩ := hown4.form
          rw [outB_len] at hc41 hr4 ⊢
          have HO4 := kp ho4; have HR4 := kp hr4
          have HW4 : Kept (Below w.heap.size w w4) := kp (HWr.out.trans (hb4.mono hsr))
          have hs4 := HW4.out.size
          clear hown4 hr4 ho4 hb4
          go_wp2_with fail
          refine (ref_after _ f0.A f0.len f0.cap f0.nodes a1 len1 cap1 l1 w4 (HF.out.keep fun _ hp => HW4.out.cell hp).nodes (HR1.out.below HW4.out) (by omega) (by omega) hs4).mono ?_
          rintro e w5 ⟨v5, o5, rfl, ho5, hown5, hb5⟩
          obtain ⟨A5, c5, rfl, hc51, hc52, hr5, _⟩ := hown5.form
          rw [outB_len] at hc51 hr5 ⊢
          have HEq : Kept (∀ g, g < f0.len → o4 g = o5 g) := kp fun g hg => by
            have h1 := HO4.out g hg
            have h2 := ho5 g hg
            cases e1 : o4 g <;> cases e2 : o5 g <;> simp_all
          have HR5 := kp hr5
          have HR4b := kp (HR4.out.below hb5)
          have HW5 : Kept (Below w.heap.size w w5) := kp (HW4.out.trans (hb5.mono hs4))
          have hs5 := HW5.out.size
          have hz5 := hb5.size
          have hnn : ((N : Int) != (ne : Int)) = false := by rw [HNe.out]; simp
          have hll : ((f0.len : Int) != (f0.len : Int)) = false := by simp
          unfold maxLen at hc42 hc52
          clear hown5 hr5 ho5 hb5
          go_wp2
          clear hdb
          go_loopw [12] (fun v12 wq => ∃ g : Nat, g ≤ f0.len ∧ v12 = .int .i64 g ∧ Below w5.heap.size w5 wq) (fun v12 _ => f0.len - (intOf v12).toNat)
          case atStart => exact ⟨0, by omega, rfl, Below.refl _ _⟩
          case round =>
            obtain ⟨g, hg, rfl, hbq⟩ := hrel
            have HBq := kp hbq
            by_cases hgl : g < f0.len
            · obtain ⟨ad4, x4, e4, _, hx4, hc4x⟩ := (HR4b.out.below (hbq.mono hz5)).get hgl
              obtain ⟨ad5, x5, e5, _, hx5, hc5x⟩ := (HR5.out.below hbq).get hgl
              rw [outB_at o4 f0.len g hgl] at hx4
              rw [outB_at o5 f0.len g hgl] at hx5
              cases hx4
              cases hx5
              rw [← HEq.out g hgl] at hc5x
              generalize o4 g = bb at *
              have hbb : (bb != bb) = false := by simp
              subst e4; subst e5
              clear hbq
              go_wp2
              go_quiet (fail)
              go_wp2
              go_roundw
              case rel => exact ⟨g + 1, by omega, by go_num, below_drewN HBq.out _⟩
              case measure => simp [intOf]; omega
            · have hgge : f0.len ≤ g := by omega
              clear hgl hbq
              go_wp2
              go_ret
              exact ⟨rfl, HW5.out.trans (HBq.out.mono hs5)⟩
end Go.Proofs.Ytfifnahcobjjdaa
