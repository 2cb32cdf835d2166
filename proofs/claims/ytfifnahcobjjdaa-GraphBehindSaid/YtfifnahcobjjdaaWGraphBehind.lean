/- GraphBehind, walked. -/
import Derived.Test.YtfifnahcobjjdaaGraphLaw1
import Derived.Test.YtfifnahcobjjdaaProgRef5
import Derived.Test.YtfifnahcobjjdaaPk16
import Derived.Test.YtfifnahcobjjdaaProgP3a
import Derived.Deep.QuietTactic
import Derived.BigQuiet
namespace Go.Proofs.Ytfifnahcobjjdaa
open Go.RowKit

theorem at_zero : (Try.prog.info? 45).map (·.zero) = some (some (.agg ((List.replicate 16 0).map natV).toArray)) := by kernel_rfl
theorem put_none (a : Act) (v : Value) : a.put none v = a := rfl
/-- Where the first i stand, each by its number. -/
structure AtOk (l : List Nat) (i : Nat) (q : List Nat) : Prop where
  len : q.length = 16
  pos : ∀ k f : Nat, k < i → l[k]? = some f → q[f]? = some (k + 1)
  zero : ∀ f : Nat, f < 16 → f ∉ l.take i → q[f]? = some 0
theorem AtOk.start (l : List Nat) : AtOk l 0 (List.replicate 16 0) := ⟨by simp, fun k f h => by omega, fun f hf _ => by rw [List.getElem?_replicate, if_pos hf]⟩
theorem AtOk.step {l q : List Nat} {i f : Nat} (h : AtOk l i q) (hx : l[i]? = some f) (hf : f < 16) (hnd : l.Nodup) : AtOk l (i + 1) (q.set f (i + 1)) := by
  refine ⟨by rw [List.length_set]; exact h.len, fun k g hk hg => ?_, fun g hg hn => ?_⟩
  · rw [List.getElem?_set]
    by_cases e : f = g
    · subst e
      have hki : k = i := by
        have h1 := (List.getElem?_eq_some_iff.1 hx)
        have h2 := (List.getElem?_eq_some_iff.1 hg)
        obtain ⟨h3, h4⟩ := h1
        obtain ⟨h5, h6⟩ := h2
        have hp := List.pairwise_iff_getElem.1 hnd
        rcases Nat.lt_trichotomy k i with h7 | h7 | h7
        · exact absurd (h6.trans h4.symm) (hp k i h5 h3 h7)
        · exact h7
        · exact absurd (h4.trans h6.symm) (hp i k h3 h5 h7)
      rw [if_pos rfl, if_pos (by rw [h.len]; exact hf), hki]
    · rw [if_neg e]
      refine h.pos k g ?_ hg
      by_cases hki : k = i
      · subst hki; rw [hx] at hg; cases hg; exact absurd rfl e
      · omega
  · rw [List.take_add_one, hx, Option.toList_some, List.mem_append, List.mem_singleton] at hn
    rw [List.getElem?_set, if_neg (fun e => hn (.inr e.symm))]
    exact h.zero g hg fun hm => hn (.inl hm)
/-- Whoever is called stands ahead. -/
theorem at_less {p : Pg} {l q : List Nat} {f y : Nat} (ho : IsOrd p l) (hq : AtOk l l.length q) (hf : f ∈ l) (hc : Q.calls p f y) : ∃ ky kf, q[y]? = some ky ∧ q[f]? = some kf ∧ ky < kf := by
  obtain ⟨k, hk⟩ := List.mem_iff_getElem?.1 hf
  have hkl := (List.getElem?_eq_some_iff.1 hk).1
  have hy := (ho k f hk).2.1.2 y hc
  obtain ⟨j, hj⟩ := List.mem_iff_getElem?.1 hy
  rw [List.getElem?_take] at hj
  split at hj
  · exact ⟨j + 1, k + 1, hq.pos j y (by omega) hj, hq.pos k f hkl hk, by omega⟩
  · cases hj
/-- All functions are in the order. -/
theorem ord_all {p : Pg} {l : List Nat} (hlen : p.fns.length = p.len) (ho : IsOrd p l) (hl : l.length = p.len) {f : Nat} (hf : f < p.len) : f ∈ l := by
  refine Classical.byContradiction fun hn => ?_
  have h1 := (ord_nodup ho).length_le_of_subset (l₂ := (List.range p.len).filter fun g => decide (g ≠ f)) (fun x hx => by
    obtain ⟨k, hk⟩ := List.mem_iff_getElem?.1 hx
    have h2 := (ho k x hk).1
    exact List.mem_filter.2 ⟨List.mem_range.2 (by omega), decide_eq_true (fun e => hn (by rw [← e]; exact hx))⟩)
  have h3 : ((List.range p.len).filter fun g => decide (g ≠ f)).length < (List.range p.len).length := by
    refine List.length_filter_lt_length_iff_exists.2 ⟨f, List.mem_range.2 hf, by simp⟩
  rw [List.length_range] at h3
  omega
theorem fn_ne {fn : Fn} {w : World} {B : Nat} (h : fn.Ok w B) (h0 : 0 < fn.len) : ∃ bd, fn.A = some bd := by
  obtain ⟨ad, _, e, _⟩ := h.nodes.get h0
  exact ⟨ad, e⟩
theorem edge_at {l : List Nd} {i j : Nat} {y : Int} (h : (edgesL l)[i]? = some (j, y)) : ∃ nd, l[j]? = some nd ∧ y ∈ Q.succ nd := by
  obtain ⟨k, nd, h1, h2, h3⟩ := (edges_mem l 0 (j, y)).1 (List.mem_of_getElem? h)
  have : k = j := by simp only at h2; omega
  subst this
  exact ⟨nd, h1, h3⟩

set_option maxRecDepth 1000000 in
set_option maxHeartbeats 8000000 in
theorem walkGraphBehind (pg0 : Pg) (a1 : Option Addr) (len1 cap1 : Nat) (z1 : List Int) (w : World) (w0 : pg0.Ok w w.heap.size) (w1 : IsRow .i64 w a1 len1 cap1 z1) :
    Calls Try.prog 5 #[pgA pg0, .slice a1 len1 cap1] w fun e w' => e = .returned (.bool true) ∧ Below w.heap.size w w' := by
  obtain ⟨l1, hr1, _, hm1, hlc1, hcm1⟩ := w1.ints
  have HR1 := kp hr1
  unfold maxLen at hm1 hcm1
  clear w1 hr1
  have HP := kp w0
  clear w0
  obtain ⟨r, hr⟩ : ∃ r, Q.small pg0 = r := ⟨_, rfl⟩
  have HR := kp hr
  clear hr
  rw [pgA_is]
  cases r
  · go_enter Try.func5, Try.ntmps5
    go_wp2_with (first
      | ((with_reducible refine wpList_box_agg rfl 24 (.tmp 0) rfl (pgC pg0) rfl ?_); intro g1 u1 hg1 hk1 hu1; have HK1 := kp hk1; have HU1 := kp hu1; have hz1 := hu1.size; clear hg1 hk1 hu1))
    refine (awake_any u1).mono ?_
    rintro e w1 ⟨rfl, hb1⟩
    have HW1 : Kept (Below w.heap.size w w1) := kp (HU1.out.trans (hb1.mono hz1))
    have hs1 := HW1.out.size
    have HP1 := kp (HP.out.below HW1.out)
    have HKa := kp (HK1.out.below hb1 HK1.out.lt)
    obtain ⟨hc0, hc1, hc2, hc3⟩ := pg_cells HKa.out
    clear hb1
    go_wp2_with fail
    refine (ref_small _ pg0 w1 HP1.out hs1 _ HR.out).mono ?_
    rintro e w2 ⟨rfl, hb2⟩
    have HW2 : Kept (Below w.heap.size w w2) := kp (HW1.out.trans (hb2.mono hs1))
    have hs2 := HW2.out.size
    have HP2 := kp (HP.out.below HW2.out)
    have HKb := kp (HKa.out.below hb2 HKa.out.lt)
    clear hb2 hc0 hc1 hc2 hc3
    obtain ⟨hc0, hc1, hc2, hc3⟩ := pg_cells HKb.out
    go_wp2_with fail
    refine (awake_any w2).mono ?_
    rintro e w9 ⟨rfl, hb9⟩
    have HW9 := kp (HW2.out.trans (hb9.mono hs2))
    clear hb9
    go_wp2
    go_ret
    exact ⟨rfl, HW9.out⟩
  · by_cases hbig : 100 < len1
    · have hgt : decide ((100 : Int) < (len1 : Int)) = true := by simp; omega
      go_enter Try.func5, Try.ntmps5
      go_wp2_with (first
        | ((with_reducible refine wpList_box_agg rfl 24 (.tmp 0) rfl (pgC pg0) rfl ?_); intro g1 u1 hg1 hk1 hu1; have HK1 := kp hk1; have HU1 := kp hu1; have hz1 := hu1.size; clear hg1 hk1 hu1))
      refine (awake_any u1).mono ?_
      rintro e w1 ⟨rfl, hb1⟩
      have HW1 : Kept (Below w.heap.size w w1) := kp (HU1.out.trans (hb1.mono hz1))
      have hs1 := HW1.out.size
      have HP1 := kp (HP.out.below HW1.out)
      have HKa := kp (HK1.out.below hb1 HK1.out.lt)
      obtain ⟨hc0, hc1, hc2, hc3⟩ := pg_cells HKa.out
      clear hb1
      go_wp2_with fail
      refine (ref_small _ pg0 w1 HP1.out hs1 _ HR.out).mono ?_
      rintro e w2 ⟨rfl, hb2⟩
      have HW2 : Kept (Below w.heap.size w w2) := kp (HW1.out.trans (hb2.mono hs1))
      have hs2 := HW2.out.size
      have HP2 := kp (HP.out.below HW2.out)
      have HKb := kp (HKa.out.below hb2 HKa.out.lt)
      clear hb2 hc0 hc1 hc2 hc3
      obtain ⟨hc0, hc1, hc2, hc3⟩ := pg_cells HKb.out
      go_wp2_with fail
      refine (awake_any w2).mono ?_
      rintro e w9 ⟨rfl, hb9⟩
      have HW9 := kp (HW2.out.trans (hb9.mono hs2))
      clear hb9
      go_wp2
      go_ret
      exact ⟨rfl, HW9.out⟩
    · have hng : decide ((100 : Int) < (len1 : Int)) = false := by simp; omega
      obtain ⟨a, b, c, hc⟩ : ∃ a b c, Q.check pg0 = (a, b, c) := ⟨_, _, _, rfl⟩
      have HC := kp hc
      by_cases hz : c = 0
      · subst hz
        have HF := kp (fine_of hc)
        have HLen := kp HP.out.row.len
        have hl16 : pg0.len ≤ 16 := by have h1 := HF.out.counts.f; have h2 := HLen.out; omega
        have hl0 : 0 < pg0.len := by have h1 := HF.out.counts.f; have h2 := HLen.out; omega
        clear hc
        go_enter Try.func5, Try.ntmps5
        go_wp2_with (first
          | ((with_reducible refine wpList_box_agg rfl 24 (.tmp 0) rfl (pgC pg0) rfl ?_); intro g1 u1 hg1 hk1 hu1; have HK1 := kp hk1; have HU1 := kp hu1; have hz1 := hu1.size; clear hg1 hk1 hu1))
        refine (awake_any u1).mono ?_
        rintro e w1 ⟨rfl, hb1⟩
        have HW1 : Kept (Below w.heap.size w w1) := kp (HU1.out.trans (hb1.mono hz1))
        have hs1 := HW1.out.size
        have HP1 := kp (HP.out.below HW1.out)
        have HKa := kp (HK1.out.below hb1 HK1.out.lt)
        obtain ⟨hc0, hc1, hc2, hc3⟩ := pg_cells HKa.out
        clear hb1
        go_wp2_with fail
        refine (ref_small _ pg0 w1 HP1.out hs1 _ HR.out).mono ?_
        rintro e w2 ⟨rfl, hb2⟩
        have HW2 : Kept (Below w.heap.size w w2) := kp (HW1.out.trans (hb2.mono hs1))
        have hs2 := HW2.out.size
        have HP2 := kp (HP.out.below HW2.out)
        have HKb := kp (HKa.out.below hb2 HKa.out.lt)
        clear hb2 hc0 hc1 hc2 hc3
        obtain ⟨hc0, hc1, hc2, hc3⟩ := pg_cells HKb.out
        go_wp2_with fail
        refine (graph_order _ pg0 w2 HP2.out hs2 HR.out a b 0 HC.out).mono ?_
        rintro e w3 ⟨v3, l, rfl, hne, hor, hown, hb3⟩
        have HW3 : Kept (Below w.heap.size w w3) := kp (HW2.out.trans (hb3.mono hs2))
        have hs3 := HW3.out.size
        have HP3 := kp (HP.out.below HW3.out)
        have HKc := kp (HKb.out.below hb3 HKb.out.lt)
        clear hb3 hc0 hc1 hc2 hc3
        obtain ⟨ho, hl⟩ := hor rfl
        obtain ⟨A3, c3, rfl, hq1, hq2, hrow⟩ := hown.readsN hl
        have HO := kp ho; have HL := kp hl; have HR3 := kp hrow
        have HNd := kp (ord_nodup ho)
        unfold maxLen at hq2
        clear hne hor hown ho hl hrow
        go_wp2_with ((with_reducible show wpList _ _ _ (⟨some 7, _, _, _, _, _⟩ :: _) _ _); go_must (refine wpList_alloc_zero rfl 45 rfl ((List.replicate 16 0).map natV) at_zero ?_); intro g7 w4 hg7 hk7 hw4; have HG7 := kp hg7; have HK7 := kp hk7; have HW4 := kp hw4; clear hg7 hk7 hw4)
        obtain ⟨ad, hA⟩ : ∃ ad, pg0.A = some ad := by
          obtain ⟨ad, _, e, _⟩ := HP.out.fn hl0
          exact ⟨ad, e⟩
        have HC3 : Kept (∀ W, Below w3.heap.size w3 W → W.cell? ⟨g1, 3, none⟩ = some (.slice (some ad) pg0.len pg0.cap)) := kp fun W hW => by rw [← hA]; exact (pg_cells (HKc.out.below hW HKc.out.lt)).2.2.2
        have HPW : Kept (∀ W, Below w3.heap.size w3 W → pg0.Ok W w.heap.size) := kp fun W hW => HP3.out.below (hW.mono hs3)
        have HR1W : Kept (∀ W, Below w3.heap.size w3 W → Row intV W w.heap.size a1 len1 l1) := kp fun W hW => HR1.out.below (HW3.out.trans (hW.mono hs3))
        have HA := kp hA
        clear hA
        go_loopw [8] (fun v8 wr => ∃ (i : Nat) (q : List Nat), i ≤ pg0.len ∧ v8 = .int .i64 i ∧ AtOk l i q ∧ Blk wr g7 45 (q.map natV) ∧ Below w3.heap.size w3 wr) (fun v8 _ => pg0.len - (intOf v8).toNat)
        case atStart => exact ⟨0, _, by omega, rfl, AtOk.start l, HK7.out, HW4.out⟩
        case round =>
          clear HK7 HW4
          obtain ⟨i, q, hi, rfl, hq, hk, hb⟩ := hrel
          have HQ := kp hq; have HK := kp hk; have HB := kp hb
          clear hq hk hb
          by_cases hlt : i < pg0.len
          · obtain ⟨adl, f, rfl, _, hx, hcx⟩ := (HR3.out.below HB.out).get hlt
            rw [natV_def] at hcx
            have hord := HO.out i f hx
            have hf : f < pg0.len := by have := hord.1; have := HLen.out; omega
            have hz0 := HQ.out.zero f (by omega) hord.2.1.1
            have hcat : wr.cell? ⟨g7, f, none⟩ = some (.int .i64 0) := by rw [HK.out.cell f, List.getElem?_map, hz0]; rfl
            have hfr := HK.out.frozen f
            have hc3 := HC3.out wr HB.out
            have HStep := kp (HQ.out.step hx (by omega) HNd.out)
            have hf0 : decide ((f : Int) < 0) = false := decide_eq_false (by omega)
            have hfl : decide ((pg0.len : Int) ≤ (f : Int)) = false := decide_eq_false (by omega)
            have hf16 : (f : Int) < 16 := by omega
            have HKn : Kept (∀ n, Blk ((wr.drewN n).setCell ⟨g7, f, none⟩ (.int .i64 ((i : Int) + 1))) g7 45 ((q.set f (i + 1)).map natV)) := kp fun n => by
              rw [List.map_set]
              exact (HK.out.drewN n).set f _
            have HBn : Kept (∀ n v, Below w3.heap.size w3 ((wr.drewN n).setCell ⟨g7, f, none⟩ v)) := kp fun n v => ⟨HB.out.os, HB.out.tape, HB.out.output, by simpa using HB.out.size, fun k hk => (heap_setCell_other (wr.drewN n) _ k v (by have := HG7.out; show k ≠ g7; omega)).trans (HB.out.block k hk)⟩
            clear hx hord hz0
            go_wp2
            go_quiet (fail)
            go_wp2
            go_roundw
            case rel => exact ⟨i + 1, _, by omega, by go_num, HStep.out, HKn.out _, HBn.out _ _⟩
            case measure => simp [intOf]; omega
          · have hie : i = l.length := by rw [HL.out]; omega
            have HQe : Kept (AtOk l l.length q) := kp (by rw [← hie]; exact HQ.out)
            have hge : i = pg0.len := by omega
            clear hlt hie HQ
            subst hge
            go_wp2
            go_loopw [9] (fun v9 wr => ∃ f : Nat, f ≤ pg0.len ∧ v9 = .int .i64 f ∧ Blk wr g7 45 (q.map natV) ∧ Below w3.heap.size w3 wr) (fun v9 _ => pg0.len - (intOf v9).toNat)
            case atStart => exact ⟨0, by omega, rfl, HK.out, HB.out⟩
            case round =>
              clear HK HB
              obtain ⟨f, hf, rfl, hk, hb⟩ := hrel
              have HK := kp hk; have HB := kp hb
              have hzr := hb.size
              clear hk hb
              have hc3 := HC3.out wr HB.out
              by_cases hlt : f < pg0.len
              · obtain ⟨ad2, fn, e2, _, hfn, hfok, hcf⟩ := (HPW.out wr HB.out).fn hlt
                rw [HA.out] at e2
                cases e2
                have hfine := Q.fine_fn hfn (HF.out.nodes f (by rw [HLen.out]; exact hlt))
                have hfl := hfok.nodes.1.len
                have hfl0 : 0 < fn.len := by omega
                have hfl64 : fn.len ≤ 64 := by omega
                obtain ⟨bd, hbd⟩ := fn_ne hfok hfl0
                have hfcm := hfok.cm
                have hflc := hfok.lc
                unfold maxLen at hfcm
                have HFn := kp hfn; have HFine := kp hfine; have HFl := kp hfl
                have HNW : Kept (∀ W, Below wr.heap.size wr W → Nodes W w.heap.size (some bd) fn.len fn.nodes ∧ W.cell? (ad.add f) = some (.slice (some bd) fn.len fn.cap)) := kp fun W hW => by
                  have h1 := hfok.nodes.keep (w' := W) fun p hp => hW.cell (by omega)
                  rw [hbd] at h1 hcf
                  refine ⟨h1, ?_⟩
                  obtain ⟨ad9, fn9, e9, _, hfn9, _, hcf9⟩ := (HPW.out W (HB.out.trans (hW.mono hzr))).fn hlt
                  rw [HA.out] at e9
                  cases e9
                  rw [hfn] at hfn9
                  cases hfn9
                  rw [hcf9, hbd]
                have HIn := kp (ord_all HLen.out HO.out HL.out hlt)
                obtain ⟨_, hcf'⟩ := HNW.out wr (Below.refl _ _)
                clear hfn hfok hcf hfine hfl hbd hc3
                have hc3 := HC3.out wr HB.out
                go_wp2
                go_loopw [10] (fun v10 wq => ∃ i : Nat, i ≤ fn.len ∧ v10 = .int .i64 i ∧ Below wr.heap.size wr wq) (fun v10 _ => fn.len - (intOf v10).toNat)
                case atStart => exact ⟨0, by omega, rfl, Below.refl _ _⟩
                case round =>
                  clear hc3 hcf'
                  obtain ⟨i, hi, rfl, hbq⟩ := hrel
                  have HBq := kp hbq
                  have hzq := hbq.size
                  obtain ⟨hnodes, hcf'⟩ := HNW.out _ hbq
                  have HBw := kp (HB.out.trans (hbq.mono hzr))
                  have hc3 := HC3.out wr HBw.out
                  have HKq := kp (HK.out.below hbq HK.out.lt)
                  have HNo := kp hnodes
                  clear hbq
                  by_cases hli : i < fn.len
                  · obtain ⟨ad0, x, e5, _, hx, _, hn0, hn1, hn2, hn3⟩ := hnodes.get hli
                    cases e5
                    by_cases hk7 : x.kind = 7
                    · have hfit := calls_fit HF.out.nodes fn (List.mem_of_getElem? HFn.out) x (List.mem_of_getElem? hx) hk7
                      obtain ⟨y, hy⟩ : ∃ y : Nat, x.arg = (y : Int) := ⟨x.arg.toNat, by omega⟩
                      obtain ⟨ky, kf, hqy, hqf, hlt2⟩ := at_less (y := y) HO.out HQe.out HIn.out ⟨fn, HFn.out, x, List.mem_of_getElem? hx, hk7, hy⟩
                      have hkb : (x.kind == 7) = true := by simpa using hk7
                      have hy16 : (y : Int) < 16 := by omega
                      have hf16 : (f : Int) < 16 := by omega
                      have HQy := kp hqy; have HQf := kp hqf; have HY := kp hy
                      have hge : decide ((kf : Int) ≤ (ky : Int)) = false := decide_eq_false (by omega)
                      have hge2 : decide (kf ≤ ky) = false := decide_eq_false (by omega)
                      have hkd : decide (x.kind = 7) = true := by simpa using hk7
                      clear hfit hqy hqf hk7 hx hnodes hy
                      go_wp2_with (first
                        | ((with_reducible show wpList _ _ _ (⟨some 11, _, _, _, _, _⟩ :: _) _ _); go_must (refine wpList_alloc_zero rfl 39 rfl (ndC ⟨0, 0, 0, 0⟩) nd_zero ?_); intro g5 w6 hg5 hk6 hw6; have HG5 := kp hg5; have HK6 := kp hk6; have HW6 := kp hw6; clear hg5 hk6 hw6)
                        | ((with_reducible show wpList _ _ _ (⟨none, _, _, _, _, _⟩ :: _) _ _); go_must (refine wpList_store_blk rfl 39 (.tmp 11) (.tmp 99) rfl g5 (ndC x) rfl rfl _ _ HK6.out nd_size rfl (nd_ones x) ?_); intro w7 hk7 hg7 hs7
                           obtain ⟨hx0, hx1, hx2, hx3⟩ := nd_cells hk7
                           have HBq7 := kp (HW6.out.grown hg7 HW6.out.size (fun k hk => by cases hk; exact HG5.out))
                           have hky := ((HKq.out.below HBq7.out HKq.out.lt).cell y).trans (by rw [List.getElem?_map, HQy.out]; rfl : (q.map natV)[y]? = some (.int .i64 (ky : Int)))
                           have hkf := ((HKq.out.below HBq7.out HKq.out.lt).cell f).trans (by rw [List.getElem?_map, HQf.out]; rfl : (q.map natV)[f]? = some (.int .i64 (kf : Int)))
                           rw [HY.out] at hx1
                           clear hk7 hg7 hs7 hn0 hn1 hn2 hn3))
                      go_quiet (fail)
                      go_wp2
                      go_roundw
                      case rel => exact ⟨i + 1, by omega, by go_num, below_drewN (HBq.out.trans (HBq7.out.mono hzq)) _⟩
                      case measure => simp [intOf]; omega
                    · have HKb : Kept ((x.kind == 7) = false) := kp (by simpa using hk7)
                      have HKd : Kept (decide (x.kind = 7) = false) := kp (by simpa using hk7)
                      clear hk7 hx hnodes
                      go_wp2_with (first
                        | ((with_reducible show wpList _ _ _ (⟨some 11, _, _, _, _, _⟩ :: _) _ _); go_must (refine wpList_alloc_zero rfl 39 rfl (ndC ⟨0, 0, 0, 0⟩) nd_zero ?_); intro g5 w6 hg5 hk6 hw6; have HG5 := kp hg5; have HK6 := kp hk6; have HW6 := kp hw6; clear hg5 hk6 hw6)
                        | ((with_reducible show wpList _ _ _ (⟨none, _, _, _, _, _⟩ :: _) _ _); go_must (refine wpList_store_blk rfl 39 (.tmp 11) (.tmp 99) rfl g5 (ndC x) rfl rfl _ _ HK6.out nd_size rfl (nd_ones x) ?_); intro w7 hk7 hg7 hs7
                           obtain ⟨hx0, hx1, hx2, hx3⟩ := nd_cells hk7
                           have HBq7 := kp (HW6.out.grown hg7 HW6.out.size (fun k hk => by cases hk; exact HG5.out))
                           have HN7 := kp hk7
                           clear hk7 hg7 hs7 hn0 hn1 hn2 hn3 hx0 hx1 hx2 hx3))
                      apply region_list (.is _ :: .is _ :: .is (.bool false) :: .is (.bool false) :: .is undef :: .is undef :: .is undef :: .is undef :: .is undef :: .is undef :: .is undef :: .is undef :: .is (.bool false) :: [])
                        [[], [(0, 100)], [(1, 101)], [(2, 102)], [(3, 103)], [(4, 104), (3, 103)], [(5, 105), (3, 103)], [(6, 106), (3, 103)], [(3, 103)], [(8, 108), (3, 103)], [(9, 109), (3, 103)], [(7, 107), (10, 110), (3, 103)], [(3, 103), (11, 111)]]
                        [(0, 100), (1, 101), (2, 102), (3, 103), (4, 104), (5, 105), (6, 106), (7, 107), (8, 108), (9, 109), (10, 110), (11, 111), (12, 112)] (by kernel_rfl) (by kernel_rfl)
                      case hob =>
                        refine ⟨?o0, ?o1, ?o2, ?o3, ?o4, ?o5, ?o6, ?o7, ?o8, ?o9, ?o10, ?o11, ?o12, trivial⟩
                        case o0 => intro W hW; change wpList _ _ _ _ _ _; go_wp2; exact pure_post rfl rfl rfl
                        case o1 =>
                          intro W hW; rintro _ rfl; change wpList _ _ _ _ _ _
                          have hx0 : W.cell? ⟨g5, 0, none⟩ = some (.int .i64 x.kind) := (HN7.out.below hW HN7.out.lt).cell 0
                          go_wp2; exact pure_post rfl rfl rfl
                        case o2 => intro W hW; rintro _ rfl; change wpList _ _ _ _ _ _; go_wp2; exact pure_post rfl (by first | rfl | (show some (Value.bool (x.kind == 7)) = _; rw [HKb.out]) | (show some (Value.bool (decide (x.kind = 7))) = _; rw [HKd.out])) rfl
                        case o3 => intro W hW; rintro _ rfl; change wpList _ _ _ _ _ _; go_wp2; exact pure_post rfl rfl rfl
                        case o4 => intro W hW; rintro _ rfl; change wpList _ _ _ _ _ _; exact part_skip _ rfl rfl rfl rfl
                        case o5 => intro W hW; rintro _ rfl; rintro _ rfl; change wpList _ _ _ _ _ _; exact part_skip _ rfl rfl rfl rfl
                        case o6 => intro W hW; rintro _ rfl; rintro _ rfl; change wpList _ _ _ _ _ _; exact part_skip _ rfl rfl rfl rfl
                        case o7 => intro W hW; rintro _ rfl; rintro _ rfl; change wpList _ _ _ _ _ _; exact part_skip _ rfl rfl rfl rfl
                        case o8 => intro W hW; rintro _ rfl; change wpList _ _ _ _ _ _; exact part_skip _ rfl rfl rfl rfl
                        case o9 => intro W hW; rintro _ rfl; rintro _ rfl; change wpList _ _ _ _ _ _; exact part_skip _ rfl rfl rfl rfl
                        case o10 => intro W hW; rintro _ rfl; rintro _ rfl; change wpList _ _ _ _ _ _; exact part_skip _ rfl rfl rfl rfl
                        case o11 => intro W hW; rintro _ rfl; rintro _ rfl; rintro _ rfl; change wpList _ _ _ _ _ _; exact part_skip _ rfl rfl rfl rfl
                        case o12 => intro W hW; rintro _ rfl; rintro _ rfl; change wpList _ _ _ _ _ _; go_wp2; exact pure_post rfl rfl rfl
                      case hend =>
                        intro W hW; rintro _ rfl; rintro _ rfl; rintro _ rfl; rintro _ rfl; rintro _ rfl; rintro _ rfl; rintro _ rfl; rintro _ rfl; rintro _ rfl; rintro _ rfl; rintro _ rfl; rintro _ rfl; rintro _ rfl
                        have HWk := kp (HBq.out.trans ((HBq7.out.mono hzq).trans (hW.mono (by have := HBq7.out.size; omega))))
                        clear hW
                        simp only [given, put_none, put_lit, List.set]
                        go_wp2
                        go_roundw
                        case rel => exact ⟨i + 1, by omega, by go_num, HWk.out⟩
                        case measure => simp [intOf]; omega
                  · have hie : i = fn.len := by omega
                    have hzw : w.heap.size ≤ wr.heap.size := Nat.le_trans hs3 HBw.out.size
                    clear hli
                    subst hie
                    go_wp2_with fail
                    refine (graph_after w.heap.size (some bd) fn.len fn.cap fn.nodes a1 len1 cap1 l1 wr HNo.out (HR1W.out wr HBw.out) (by omega) (by omega) hzw).mono ?_
                    rintro e w5 ⟨v5, o5, rfl, ho5, hown5, hb5⟩
                    obtain ⟨A5, c5, rfl, hc51, hc52, hr5, _⟩ := hown5.form
                    rw [outB_len] at hc51 hr5 ⊢
                    unfold maxLen at hc52
                    have HO5 := kp ho5; have HR5 := kp hr5
                    have HBq5 := kp (HBq.out.trans (hb5.mono hzq))
                    have HBw5 := kp (HB.out.trans (HBq5.out.mono hzr))
                    have HK5 := kp (HKq.out.below hb5 HKq.out.lt)
                    obtain ⟨hnodes5, hcf5⟩ := HNW.out w5 HBq5.out
                    have HNo5 := kp hnodes5
                    have hc35 := HC3.out w5 HBw5.out
                    have hz5 : w.heap.size ≤ w5.heap.size := Nat.le_trans hzw hb5.size
                    clear hown5 hr5 ho5 hb5 hnodes hnodes5 hcf' hc3
                    go_wp2_with fail
                    refine (graph_edges w.heap.size (some bd) fn.len fn.cap fn.nodes w5 HNo5.out (by omega) hz5).mono ?_
                    rintro e w6 ⟨Ae, ne, ce, rfl, hne1, hne2, hre, hb6⟩
                    unfold maxLen at hne2
                    have HRe := kp hre
                    have HR6 := kp (HR5.out.below hb6)
                    have HBw6 := kp (HBw5.out.trans (hb6.mono (by have := HBw5.out.size; omega)))
                    have HK6 := kp (HK5.out.below hb6 HK5.out.lt)
                    have hz65 := hb6.size
                    have hz63 := HBw6.out.size
                    clear hb6 hre hcf5 hc35
                    go_wp2
                    go_loopw [14] (fun v14 wq => ∃ i : Nat, i ≤ ne ∧ v14 = .int .i64 i ∧ Below w6.heap.size w6 wq) (fun v14 _ => ne - (intOf v14).toNat)
                    case atStart => exact ⟨0, by omega, rfl, Below.refl _ _⟩
                    case round =>
                      obtain ⟨i, hi, rfl, hbr⟩ := hrel
                      have HBr := kp hbr
                      by_cases hle : i < ne
                      · obtain ⟨ade, ed, e6, _, hed, hg0, hg1⟩ := (HRe.out.below hbr).field hle
                        obtain ⟨j, y0⟩ := ed
                        subst e6
                        obtain ⟨nd, hnd, hys⟩ := edge_at hed
                        have hjl := (List.getElem?_eq_some_iff.1 hnd).1
                        have hjn : j < fn.len := by rw [← HFl.out]; exact hjl
                        have hyr := may_next (HFine.out.2.2 j nd hnd) HFine.out.1 y0 hys
                        rw [HFl.out] at hyr
                        obtain ⟨y, rfl⟩ : ∃ y : Nat, y0 = (y : Int) := ⟨y0.toNat, by omega⟩
                        have hyn : y < fn.len := by omega
                        have hf0 : wr.cell? (ade.add (i * 2)) = some (.int .i64 (j : Int)) := hg0 (by omega)
                        have hf1 : wr.cell? ⟨(ade.add (i * 2)).block, (ade.add (i * 2)).off + 1, none⟩ = some (.int .i64 (y : Int)) := hg1 1 (by omega) (by omega)
                        obtain ⟨ad5, xj, e7, _, hxj, hcj⟩ := (HR6.out.below (hbr.mono hz65)).get hjn
                        obtain ⟨ad5', xy, e8, _, hxy, hcy⟩ := (HR6.out.below (hbr.mono hz65)).get hyn
                        subst e7
                        cases e8
                        rw [outB_at _ fn.len j hjn] at hxj
                        rw [outB_at _ fn.len y hyn] at hxy
                        cases hxj
                        cases hxy
                        have HImp : Kept (o5 j = true → o5 y = true) := kp fun h => by
                          refine (HO5.out y hyn).2 ?_
                          obtain ⟨a0, h1, h2, h3⟩ := (HO5.out j hjn).1 h
                          exact ⟨a0, h1, h2, h3.trans hjl (.one ⟨by rw [HFl.out]; exact hyn, nd, hnd, hys⟩)⟩
                        have hjb : (j : Int) < (fn.len : Int) := by omega
                        have hyb : (y : Int) < (fn.len : Int) := by omega
                        generalize o5 j = bj at *
                        generalize o5 y = by_ at *
                        clear hbr hed hnd hys hg0 hg1 hyr hjl
                        cases bj
                        · go_wp2
                          go_roundw
                          case rel => exact ⟨i + 1, by omega, by go_num, HBr.out⟩
                          case measure => simp [intOf]; omega
                        · have hby := HImp.out rfl
                          subst hby
                          go_wp2
                          go_roundw
                          case rel => exact ⟨i + 1, by omega, by go_num, HBr.out⟩
                          case measure => simp [intOf]; omega
                      · have hie : i = ne := by omega
                        have HKr := kp (HK6.out.below hbr HK6.out.lt)
                        have HBe := kp (HBw6.out.trans (hbr.mono hz63))
                        clear hle hbr
                        subst hie
                        go_wp2
                        go_roundw
                        case rel => exact ⟨f + 1, by omega, by go_num, HKr.out, HBe.out⟩
                        case measure => simp [intOf]; omega
              · have hfe : f = pg0.len := by omega
                have HBw := kp (HW3.out.trans (HB.out.mono hs3))
                clear hlt
                subst hfe
                go_wp2
                go_ret
                exact ⟨rfl, HBw.out⟩
      · clear hc
        go_enter Try.func5, Try.ntmps5
        go_wp2_with (first
          | ((with_reducible refine wpList_box_agg rfl 24 (.tmp 0) rfl (pgC pg0) rfl ?_); intro g1 u1 hg1 hk1 hu1; have HK1 := kp hk1; have HU1 := kp hu1; have hz1 := hu1.size; clear hg1 hk1 hu1))
        refine (awake_any u1).mono ?_
        rintro e w1 ⟨rfl, hb1⟩
        have HW1 : Kept (Below w.heap.size w w1) := kp (HU1.out.trans (hb1.mono hz1))
        have hs1 := HW1.out.size
        have HP1 := kp (HP.out.below HW1.out)
        have HKa := kp (HK1.out.below hb1 HK1.out.lt)
        obtain ⟨hc0, hc1, hc2, hc3⟩ := pg_cells HKa.out
        clear hb1
        go_wp2_with fail
        refine (ref_small _ pg0 w1 HP1.out hs1 _ HR.out).mono ?_
        rintro e w2 ⟨rfl, hb2⟩
        have HW2 : Kept (Below w.heap.size w w2) := kp (HW1.out.trans (hb2.mono hs1))
        have hs2 := HW2.out.size
        have HP2 := kp (HP.out.below HW2.out)
        have HKb := kp (HKa.out.below hb2 HKa.out.lt)
        clear hb2 hc0 hc1 hc2 hc3
        obtain ⟨hc0, hc1, hc2, hc3⟩ := pg_cells HKb.out
        go_wp2_with fail
        refine (graph_order _ pg0 w2 HP2.out hs2 HR.out a b c HC.out).mono ?_
        rintro e w3 ⟨v3, l, rfl, hne, hor, hown, hb3⟩
        have HW3 : Kept (Below w.heap.size w w3) := kp (HW2.out.trans (hb3.mono hs2))
        have hs3 := HW3.out.size
        have HP3 := kp (HP.out.below HW3.out)
        have HKc := kp (HKb.out.below hb3 HKb.out.lt)
        clear hb3 hc0 hc1 hc2 hc3
        have hl0 := hne hz
        subst hl0
        obtain ⟨A3, c3, rfl, hq1, hq2, _⟩ := hown.readsN (n := 0) rfl
        unfold maxLen at hq2
        clear hne hor hown
        have hzb : ((c : Int) != 0) = true := by rw [bne_iff_ne]; omega
        clear hz
        go_wp2
        go_ret
        exact ⟨rfl, HW3.out⟩
end Go.Proofs.Ytfifnahcobjjdaa
