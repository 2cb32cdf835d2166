/- ProgOrder, walked. -/
import Derived.Test.YtkglcmbpajfofaaProgOrd
namespace Go.Proofs.Ytkglcmbpajfofaa
open Go.RowKit

/-- Who is out, as cells. -/
def outL (o : Nat → Bool) : List Value := (List.range 16).map fun g => .bool (o g)
theorem out_zero : (Try.prog.info? 40).map (·.zero) = some (some (.agg (outL fun _ => false).toArray)) := by kernel_rfl

theorem outL_at (o : Nat → Bool) (f : Nat) (hf : f < 16) : (outL o)[f]? = some (.bool (o f)) := by
  unfold outL
  rw [List.getElem?_map, List.getElem?_range hf]; rfl
theorem outL_set (o : Nat → Bool) (f : Nat) : (outL o).set f (.bool true) = outL fun g => if g = f then true else o g := by
  apply List.ext_getElem?
  intro i
  by_cases hi : i < 16
  · rw [outL_at _ i hi]
    by_cases hif : f = i
    · subst hif
      rw [List.getElem?_set_self (by simp [outL, hi]), if_pos rfl]
    · rw [List.getElem?_set_ne hif, outL_at _ i hi, if_neg (fun e => hif e.symm)]
  · rw [List.getElem?_eq_none (by simp [outL]; omega), List.getElem?_eq_none (by simp [outL]; omega)]
theorem cnt_none : ∀ n, cnt (fun _ => false) n = 0
  | 0 => rfl
  | n + 1 => by simp only [cnt]; rw [cnt_none n]; rfl
/-- So far nobody who is left is called. -/
def FreeAt (o : Nat → Bool) (f : Nat) (nodes : List Nd) (i : Nat) (b : Bool) : Prop :=
  b = true ↔ o f = false ∧ ∀ (j : Nat) (nd : Nd), j < i → nodes[j]? = some nd → nd.kind = 7 → ∀ k : Nat, nd.arg = (k : Int) → o k = true
theorem free_zero (o : Nat → Bool) (f : Nat) (nodes : List Nd) : FreeAt o f nodes 0 (!o f) := by
  unfold FreeAt
  constructor
  · intro h; exact ⟨by simpa using h, fun j nd hj => by omega⟩
  · intro h; simp [h.1]
theorem free_skip {o : Nat → Bool} {f : Nat} {nodes : List Nd} {i : Nat} {b : Bool} {nd : Nd} (h : FreeAt o f nodes i b) (hx : nodes[i]? = some nd) (hk : nd.kind ≠ 7) : FreeAt o f nodes (i + 1) b := by
  unfold FreeAt at *
  rw [h]
  constructor
  · rintro ⟨h1, h2⟩
    refine ⟨h1, fun j n hj hn h7 => ?_⟩
    by_cases hji : j = i
    · subst hji; rw [hx] at hn; cases hn; exact absurd h7 hk
    · exact h2 j n (by omega) hn h7
  · rintro ⟨h1, h2⟩
    exact ⟨h1, fun j n hj => h2 j n (by omega)⟩
theorem free_call {o : Nat → Bool} {f : Nat} {nodes : List Nd} {i k : Nat} {b : Bool} {nd : Nd} (h : FreeAt o f nodes i b) (hx : nodes[i]? = some nd) (hk : nd.kind = 7) (ha : nd.arg = (k : Int)) : FreeAt o f nodes (i + 1) (b && o k) := by
  unfold FreeAt at *
  rw [Bool.and_eq_true, h]
  constructor
  · rintro ⟨⟨h1, h2⟩, h3⟩
    refine ⟨h1, fun j n hj hn h7 k' hk' => ?_⟩
    by_cases hji : j = i
    · subst hji; rw [hx] at hn; cases hn
      have : k' = k := by omega
      subst this; exact h3
    · exact h2 j n (by omega) hn h7 k' hk'
  · rintro ⟨h1, h2⟩
    exact ⟨⟨h1, fun j n hj => h2 j n (by omega)⟩, h2 i nd (by omega) hx hk k ha⟩
theorem free_end {p : Pg} {o : Nat → Bool} {f : Nat} {fn : Fn} {b : Bool} (hf : p.fns[f]? = some fn) (h : FreeAt o f fn.nodes fn.nodes.length b) : b = true ↔ (o f = false ∧ ∀ y, Q.calls p f y → o y = true) := by
  unfold FreeAt at h
  rw [h]
  constructor
  · rintro ⟨h1, h2⟩
    refine ⟨h1, ?_⟩
    rintro y ⟨fn', hf', nd, hnd, h7, ha⟩
    rw [hf] at hf'; cases hf'
    obtain ⟨j, hj⟩ := List.mem_iff_getElem?.1 hnd
    exact h2 j nd (List.getElem?_eq_some_iff.1 hj).1 hj h7 y ha
  · rintro ⟨h1, h2⟩
    exact ⟨h1, fun j nd hj hn h7 k ha => h2 k ⟨fn, hf, nd, List.mem_of_getElem? hn, h7, ha⟩⟩

set_option maxRecDepth 1000000 in
set_option maxHeartbeats 4000000 in
theorem walkProgOrder (pg0 : Pg) (w : World) (w0 : pg0.Ok w w.heap.size) :
    Calls Try.prog 6 #[pgA pg0] w fun e w' => e = .returned (.bool true) ∧ Below w.heap.size w w' := by
  have HP := kp w0
  clear w0
  obtain ⟨r, hr⟩ : ∃ r, Q.small pg0 = r := ⟨_, rfl⟩
  have HR := kp hr
  clear hr
  rw [pgA_is]
  cases r
  · go_enter Try.func6, Try.ntmps6
    go_wp2_with (first
      | ((with_reducible refine wpList_box_agg rfl 24 (.tmp 0) rfl (pgC pg0) rfl ?_); intro g1 u1 hg1 hk1 hu1; have HK1 := kp hk1; have HU1 := kp hu1; have hz1 := hu1.size; clear hg1 hk1 hu1))
    refine (awake_any u1).mono ?_
    rintro e w1 ⟨rfl, hb1⟩
    have HW1 : Kept (Below w.heap.size w w1) := kp (HU1.out.trans (hb1.mono hz1))
    have hs1 := HW1.out.size
    have HP1 := kp (HP.out.below HW1.out)
    have HKa := kp (HK1.out.below hb1 HK1.out.lt)
    obtain ⟨hc0, hc1, hc2, hc3⟩ := pg_cells HKa.out
    clear hb1
    go_wp2_with fail
    refine (ref_small _ pg0 w1 HP1.out hs1 _ HR.out).mono ?_
    rintro e w2 ⟨rfl, hb2⟩
    have HW2 : Kept (Below w.heap.size w w2) := kp (HW1.out.trans (hb2.mono hs1))
    have hs2 := HW2.out.size
    have HP2 := kp (HP.out.below HW2.out)
    have HKb := kp (HKa.out.below hb2 HKa.out.lt)
    clear hb2 hc0 hc1 hc2 hc3
    obtain ⟨hc0, hc1, hc2, hc3⟩ := pg_cells HKb.out
    go_wp2_with fail
    refine (awake_any w2).mono ?_
    rintro e w3 ⟨rfl, hb3⟩
    have HW3 := kp (HW2.out.trans (hb3.mono hs2))
    clear hb3
    go_wp2
    go_ret
    exact ⟨rfl, HW3.out⟩
  · obtain ⟨a, b, c, hc⟩ : ∃ a b c, Q.check pg0 = (a, b, c) := ⟨_, _, _, rfl⟩
    have HC := kp hc
    by_cases hc0 : c = 0
    · subst hc0
      have HF := kp (fine_of hc)
      clear hc
      go_enter Try.func6, Try.ntmps6
      go_wp2_with (first
        | ((with_reducible refine wpList_box_agg rfl 24 (.tmp 0) rfl (pgC pg0) rfl ?_); intro g1 u1 hg1 hk1 hu1; have HK1 := kp hk1; have HU1 := kp hu1; have hz1 := hu1.size; clear hg1 hk1 hu1))
      refine (awake_any u1).mono ?_
      rintro e w1 ⟨rfl, hb1⟩
      have HW1 : Kept (Below w.heap.size w w1) := kp (HU1.out.trans (hb1.mono hz1))
      have hs1 := HW1.out.size
      have HP1 := kp (HP.out.below HW1.out)
      have HKa := kp (HK1.out.below hb1 HK1.out.lt)
      obtain ⟨hc0, hc1, hc2, hc3⟩ := pg_cells HKa.out
      clear hb1
      go_wp2_with fail
      refine (ref_small _ pg0 w1 HP1.out hs1 _ HR.out).mono ?_
      rintro e w2 ⟨rfl, hb2⟩
      have HW2 : Kept (Below w.heap.size w w2) := kp (HW1.out.trans (hb2.mono hs1))
      have hs2 := HW2.out.size
      have HP2 := kp (HP.out.below HW2.out)
      have HKb := kp (HKa.out.below hb2 HKa.out.lt)
      clear hb2 hc0 hc1 hc2 hc3
      obtain ⟨hc0, hc1, hc2, hc3⟩ := pg_cells HKb.out
      go_wp2_with fail
      refine (prog_check _ pg0 w2 HP2.out hs2 HR.out a b 0 HC.out).mono ?_
      rintro e w3 ⟨rfl, hb3⟩
      have HW3 : Kept (Below w.heap.size w w3) := kp (HW2.out.trans (hb3.mono hs2))
      have hs3 := HW3.out.size
      have HKc := kp (HKb.out.below hb3 HKb.out.lt)
      clear hb3 hc0 hc1 hc2 hc3
      have HPW : Kept (∀ W, Below w3.heap.size w3 W → pg0.Ok W w.heap.size) := kp fun W hW => HP.out.below (HW3.out.trans (hW.mono hs3))
      obtain ⟨ad, hA⟩ : ∃ ad, pg0.A = some ad := by
        obtain ⟨ad, _, e, _⟩ := HP.out.fn (k := 0) (by have := HF.out.counts.f; rw [HP.out.row.len] at this; omega)
        exact ⟨ad, e⟩
      have HA := kp hA
      have HLen := kp HP.out.row.len
      have hl16 : pg0.len ≤ 16 := by have := HF.out.counts.f; have := HLen.out; omega
      have hcap : pg0.len ≤ pg0.cap := HP.out.lc
      have hcapm := HP.out.cm
      unfold maxLen at hcapm
      have HCA : Kept (∀ W, Below w3.heap.size w3 W → W.cell? ⟨g1, 0, none⟩ = some (.int .i64 pg0.g) ∧ W.cell? ⟨g1, 1, none⟩ = some (.int .i64 pg0.l) ∧ W.cell? ⟨g1, 2, none⟩ = some (.int .i64 pg0.s) ∧ W.cell? ⟨g1, 3, none⟩ = some (.slice pg0.A pg0.len pg0.cap)) := kp fun W hW => pg_cells (HKc.out.below hW HKc.out.lt)
      have HC3 : Kept (∀ W, Below w3.heap.size w3 W → W.cell? ⟨g1, 3, none⟩ = some (.slice (some ad) pg0.len pg0.cap)) := kp fun W hW => by rw [← HA.out]; exact (HCA.out W hW).2.2.2
      have HAc : Kept (∀ x, x < pg0.len → ¬ Q.Reach (Q.calls pg0) pg0.len x x) := kp (by have h := fine_acyclic HF.out HLen.out; rw [HLen.out] at h; exact h)
      have HIn : Kept (∀ x y, Q.calls pg0 x y → y < pg0.len) := kp (by intro x y h; have := fine_in HF.out HLen.out h; rw [HLen.out] at this; exact this)
      clear hA
      go_wp2_with (first
        | ((with_reducible show wpList _ _ _ (⟨some 6, _, _, _, _, _⟩ :: _) _ _); go_must (refine wpList_alloc_zero rfl 40 rfl (outL fun _ => false) out_zero ?_); intro g6 w4 hg6 hk4 hw4; have HO4 := kp hk4; have HW4 := kp hw4; clear hk4 hw4))
      go_loopw [7, 8] (fun v7 v8 wr => ∃ (r : Nat) (o : Nat → Bool), r ≤ pg0.len ∧ v8 = .int .i64 r ∧ v7 = .int .i64 (cnt o pg0.len : Nat) ∧ r ≤ cnt o pg0.len ∧ Blk wr g6 40 (outL o) ∧ Below w3.heap.size w3 wr) (fun _ v8 _ => pg0.len - (intOf v8).toNat)
      case atStart => exact ⟨0, fun _ => false, by omega, rfl, by rw [cnt_none]; rfl, by omega, HO4.out, HW4.out⟩
      case round =>
        clear HO4 HW4
        obtain ⟨r, o0, hr, rfl, rfl, hrc, hob, hbw⟩ := hrel
        have HO0 := kp hob
        have HBw := kp hbw
        have hc3 := HC3.out wr hbw
        have hcl := cnt_le o0 pg0.len
        obtain ⟨n0, hn0⟩ : ∃ n0, cnt o0 pg0.len = n0 := ⟨_, rfl⟩
        rw [hn0] at hrc hcl
        have HN0 := kp hn0
        rw [hn0]
        clear hob hbw hn0
        by_cases hlt : r < pg0.len
        · go_wp2
          go_loopw [7, 9] (fun v7 v9 wr => ∃ (f : Nat) (o : Nat → Bool), f ≤ pg0.len ∧ v9 = .int .i64 f ∧ v7 = .int .i64 (cnt o pg0.len : Nat) ∧ OrdInv (Q.calls pg0) pg0.len o0 o f ∧ Blk wr g6 40 (outL o) ∧ Below w3.heap.size w3 wr) (fun _ v9 _ => pg0.len - (intOf v9).toNat)
          case atStart => exact ⟨0, o0, by omega, rfl, by rw [HN0.out], OrdInv.start _ _ _, HO0.out, HBw.out⟩
          case round =>
            clear HO0 HBw hc3
            obtain ⟨f, o, hf, rfl, rfl, hinv, hob, hbw⟩ := hrel
            have HInv := kp hinv
            have HO := kp hob
            have HBw := kp hbw
            have hc3 := HC3.out wr hbw
            have hcl2 := cnt_le o pg0.len
            obtain ⟨n1, hn1⟩ : ∃ n1, cnt o pg0.len = n1 := ⟨_, rfl⟩
            rw [hn1] at hcl2
            have HN1 := kp hn1
            rw [hn1]
            clear hinv hob hn1
            by_cases hltf : f < pg0.len
            · obtain ⟨ad0, fn, e0, _, hfn, hfok, hcf0⟩ := (HPW.out w3 (Below.refl _ _)).fn hltf
              rw [HA.out] at e0
              cases e0
              obtain ⟨fA, fl, fc, fns⟩ := fn
              obtain ⟨hf1, hf2, hf3⟩ := Q.fine_fn hfn (HF.out.nodes f (by rw [HLen.out]; exact hltf))
              simp only at hf1 hf2 hf3 hcf0
              have hfll : fns.length = fl := hfok.nodes.1.len
              obtain ⟨adf, _, e1, _⟩ := hfok.nodes.get (k := 0) (by show 0 < fl; omega)
              simp only at e1
              subst e1
              have HFn := kp hfn
              have HFll := kp hfll
              have HCall : Kept (∀ nd ∈ fns, nd.kind = 7 → ∃ k : Nat, nd.arg = (k : Int) ∧ k < pg0.len) := kp (by
                intro nd hnd h7
                have h := calls_fit HF.out.nodes _ (List.mem_of_getElem? hfn) nd hnd h7
                exact ⟨nd.arg.toNat, by omega, by omega⟩)
              have hfl64 : fl ≤ 64 := by omega
              have hflc : fl ≤ fc := hfok.lc
              have hfcm := hfok.cm
              simp only [maxLen] at hfcm
              have HFok : Kept (∀ W, Below w3.heap.size w3 W → Nodes W w.heap.size (some adf) fl fns) := kp fun W hW => hfok.nodes.keep fun p hp => hW.cell (by omega)
              have HCF : Kept (∀ W, Below w3.heap.size w3 W → W.cell? (ad.add f) = some (.slice (some adf) fl fc)) := kp fun W hW => by
                obtain ⟨ad1, fn1, e1, hab1, hfn1, _, hcell1⟩ := (HPW.out W hW).fn hltf
                rw [HA.out] at e1
                cases e1
                rw [HFn.out] at hfn1
                cases hfn1
                exact hcell1
              have hcf := HCF.out wr hbw
              have ho6 : wr.cell? ⟨g6, f, none⟩ = some (.bool (o f)) := (HO.out.cell f).trans (outL_at o f (by omega))
              have HZ := kp (free_zero o f fns)
              obtain ⟨bz, hbz⟩ : ∃ bz, o f = bz := ⟨_, rfl⟩
              rw [hbz] at ho6 HZ
              clear hfn hfok hcf0 hf1 hf2 hf3 hfll hbw hbz
              go_wp2
              go_loopw [10, 11] (fun v10 v11 wr => ∃ (i : Nat) (b : Bool), i ≤ fl ∧ v11 = .int .i64 i ∧ v10 = .bool b ∧ FreeAt o f fns i b ∧ Blk wr g6 40 (outL o) ∧ Below w3.heap.size w3 wr) (fun _ v11 _ => fl - (intOf v11).toNat)
              case atStart => exact ⟨0, !bz, by omega, rfl, rfl, HZ.out, HO.out, HBw.out⟩
              case round =>
                clear HO HBw hc3 hcf ho6 HZ
                obtain ⟨i, b2, hi, rfl, rfl, hfree, hob, hbw⟩ := hrel
                have HFree := kp hfree
                have HO := kp hob
                have HBw := kp hbw
                have hc3 := HC3.out wr hbw
                have hcf := HCF.out wr hbw
                have hs4 := hbw.size
                have hgo := hob.lt
                clear hfree hob
                by_cases hlti : i < fl
                · obtain ⟨adf1, nd, e2, hadf, hnd, hndok, he0, he1, he2, he3⟩ := (HFok.out wr hbw).get hlti
                  cases e2
                  have HNd := kp hnd
                  by_cases h7 : nd.kind = 7
                  · obtain ⟨k, hk, hklt⟩ := HCall.out nd (List.mem_of_getElem? hnd) h7
                    have HFr := kp (free_call HFree.out hnd h7 hk)
                    obtain ⟨kd, ag, nx, al⟩ := nd
                    simp only at h7 hk he0 he1 he2 he3
                    subst h7
                    subst hk
                    obtain ⟨bo, hbo⟩ : ∃ bo, o k = bo := ⟨_, rfl⟩
                    rw [hbo] at HFr
                    have HBo := kp hbo
                    clear hnd hndok hbw hbo
                    cases b2
                    · go_wp2_with (first
                        | ((with_reducible show wpList _ _ _ (⟨some 12, _, _, _, _, _⟩ :: _) _ _); go_must (refine wpList_alloc_zero rfl 26 rfl (ndC ⟨0, 0, 0, 0⟩) nd_zero ?_); intro g8 w6 hg8 hk6 hw6; have HK6 := kp hk6; have HW6 : Kept (Below w3.heap.size w3 w6) := kp (HBw.out.trans (hw6.mono hs4)); have HO6 := kp (HO.out.below hw6 hgo); have hs6 := HW6.out.size; have hgo6 := HO6.out.lt
                           clear hk6 hw6)
                        | ((with_reducible show wpList _ _ _ (⟨none, _, _, _, _, _⟩ :: _) _ _); go_must (refine wpList_store_blk rfl 26 (.tmp 12) (.tmp 64) rfl g8 (ndC ⟨7, (k : Int), nx, al⟩) rfl rfl _ _ HK6.out nd_size rfl (nd_ones ⟨7, (k : Int), nx, al⟩) ?_); intro w7 hk7 hg7 hs7
                           obtain ⟨hd0, hd1, hd2, hd3⟩ := nd_cells hk7
                           have HO7 : Kept (Blk w7 g6 40 (outL o)) := kp (HO6.out.grown hg7 (by intro e; cases e; omega))
                           have HW7 : Kept (Below w3.heap.size w3 w7) := kp (HW6.out.grown hg7 hs6 (by intro k e; cases e; omega))
                           have hok : w7.cell? ⟨g6, k, none⟩ = some (.bool bo) := by rw [← HBo.out]; exact (HO7.out.cell k).trans (outL_at o k (by omega))
                           clear hk7 hg7 he0 he1 he2 he3 hc3 hcf))
                      go_roundw
                      case rel => exact ⟨i + 1, false, by omega, by go_num, rfl, HFr.out, HO7.out, HW7.out⟩
                      case measure => simp [intOf]; omega
                    · go_wp2_with (first
                        | ((with_reducible show wpList _ _ _ (⟨some 12, _, _, _, _, _⟩ :: _) _ _); go_must (refine wpList_alloc_zero rfl 26 rfl (ndC ⟨0, 0, 0, 0⟩) nd_zero ?_); intro g8 w6 hg8 hk6 hw6; have HK6 := kp hk6; have HW6 : Kept (Below w3.heap.size w3 w6) := kp (HBw.out.trans (hw6.mono hs4)); have HO6 := kp (HO.out.below hw6 hgo); have hs6 := HW6.out.size; have hgo6 := HO6.out.lt
                           clear hk6 hw6)
                        | ((with_reducible show wpList _ _ _ (⟨none, _, _, _, _, _⟩ :: _) _ _); go_must (refine wpList_store_blk rfl 26 (.tmp 12) (.tmp 64) rfl g8 (ndC ⟨7, (k : Int), nx, al⟩) rfl rfl _ _ HK6.out nd_size rfl (nd_ones ⟨7, (k : Int), nx, al⟩) ?_); intro w7 hk7 hg7 hs7
                           obtain ⟨hd0, hd1, hd2, hd3⟩ := nd_cells hk7
                           have HO7 : Kept (Blk w7 g6 40 (outL o)) := kp (HO6.out.grown hg7 (by intro e; cases e; omega))
                           have HW7 : Kept (Below w3.heap.size w3 w7) := kp (HW6.out.grown hg7 hs6 (by intro k e; cases e; omega))
                           have hok : w7.cell? ⟨g6, k, none⟩ = some (.bool bo) := by rw [← HBo.out]; exact (HO7.out.cell k).trans (outL_at o k (by omega))
                           clear hk7 hg7 he0 he1 he2 he3 hc3 hcf))
                      go_roundw
                      case rel => exact ⟨i + 1, bo, by omega, by go_num, rfl, by have h := HFr.out; rw [Bool.true_and] at h; exact h, HO7.out, HW7.out⟩
                      case measure => simp [intOf]; omega
                  · have HFr := kp (free_skip HFree.out hnd h7)
                    have hkb : (nd.kind != 7) = true := by simpa using h7
                    clear hnd hndok hbw h7
                    cases b2
                    · go_wp2_with (first
                        | ((with_reducible show wpList _ _ _ (⟨some 12, _, _, _, _, _⟩ :: _) _ _); go_must (refine wpList_alloc_zero rfl 26 rfl (ndC ⟨0, 0, 0, 0⟩) nd_zero ?_); intro g8 w6 hg8 hk6 hw6; have HK6 := kp hk6; have HW6 : Kept (Below w3.heap.size w3 w6) := kp (HBw.out.trans (hw6.mono hs4)); have HO6 := kp (HO.out.below hw6 hgo); have hs6 := HW6.out.size; have hgo6 := HO6.out.lt
                           clear hk6 hw6)
                        | ((with_reducible show wpList _ _ _ (⟨none, _, _, _, _, _⟩ :: _) _ _); go_must (refine wpList_store_blk rfl 26 (.tmp 12) (.tmp 64) rfl g8 (ndC nd) rfl rfl _ _ HK6.out nd_size rfl (nd_ones nd) ?_); intro w7 hk7 hg7 hs7
                           obtain ⟨hd0, hd1, hd2, hd3⟩ := nd_cells hk7
                           have HO7 : Kept (Blk w7 g6 40 (outL o)) := kp (HO6.out.grown hg7 (by intro e; cases e; omega))
                           have HW7 : Kept (Below w3.heap.size w3 w7) := kp (HW6.out.grown hg7 hs6 (by intro k e; cases e; omega))
                           clear hk7 hg7 he0 he1 he2 he3 hc3 hcf))
                      go_roundw
                      case rel => exact ⟨i + 1, false, by omega, by go_num, rfl, HFr.out, HO7.out, HW7.out⟩
                      case measure => simp [intOf]; omega
                    · go_wp2_with (first
                        | ((with_reducible show wpList _ _ _ (⟨some 12, _, _, _, _, _⟩ :: _) _ _); go_must (refine wpList_alloc_zero rfl 26 rfl (ndC ⟨0, 0, 0, 0⟩) nd_zero ?_); intro g8 w6 hg8 hk6 hw6; have HK6 := kp hk6; have HW6 : Kept (Below w3.heap.size w3 w6) := kp (HBw.out.trans (hw6.mono hs4)); have HO6 := kp (HO.out.below hw6 hgo); have hs6 := HW6.out.size; have hgo6 := HO6.out.lt
                           clear hk6 hw6)
                        | ((with_reducible show wpList _ _ _ (⟨none, _, _, _, _, _⟩ :: _) _ _); go_must (refine wpList_store_blk rfl 26 (.tmp 12) (.tmp 64) rfl g8 (ndC nd) rfl rfl _ _ HK6.out nd_size rfl (nd_ones nd) ?_); intro w7 hk7 hg7 hs7
                           obtain ⟨hd0, hd1, hd2, hd3⟩ := nd_cells hk7
                           have HO7 : Kept (Blk w7 g6 40 (outL o)) := kp (HO6.out.grown hg7 (by intro e; cases e; omega))
                           have HW7 : Kept (Below w3.heap.size w3 w7) := kp (HW6.out.grown hg7 hs6 (by intro k e; cases e; omega))
                           clear hk7 hg7 he0 he1 he2 he3 hc3 hcf))
                      go_roundw
                      case rel => exact ⟨i + 1, true, by omega, by go_num, rfl, HFr.out, HO7.out, HW7.out⟩
                      case measure => simp [intOf]; omega
                · have hie : i = fl := by omega
                  have HEnd := kp (free_end HFn.out (by show FreeAt o f fns fns.length b2; rw [HFll.out, ← hie]; exact HFree.out))
                  have ho6 : wr.cell? ⟨g6, f, none⟩ = some (.bool (o f)) := (HO.out.cell f).trans (outL_at o f (by omega))
                  have hf6 := HO.out.frozen f
                  have hge : fl ≤ i := by omega
                  clear hlti hie hbw
                  cases b2
                  · go_wp2
                    go_roundw
                    case rel => exact ⟨f + 1, o, by omega, by go_num, by rw [HN1.out], HInv.out.skip (fun h => by have := HEnd.out.2 h; cases this), HO.out, HBw.out⟩
                    case measure => simp [intOf]; omega
                  · have HFr0 := kp (HEnd.out.1 rfl).1
                    have HCn : Kept (cnt (fun g => if g = f then true else o g) pg0.len = n1 + 1) := kp (by rw [← HN1.out]; exact cnt_set pg0.len hltf HFr0.out (if_pos rfl) (fun g hg => if_neg hg))
                    go_wp2
                    go_roundw
                    case rel => exact ⟨f + 1, fun g => if g = f then true else o g, by omega, by go_num, by rw [HCn.out]; go_num, HInv.out.take (if_pos rfl) (fun g hg => if_neg hg), by rw [← outL_set]; exact HO.out.set f _, HBw.out.grown (grown_set (g := g6) (grown_refl _ _)) HBw.out.size (by intro k e; cases e; omega)⟩
                    case measure => simp [intOf]; omega
            · have hge : pg0.len ≤ f := by omega
              have hfe : f = pg0.len := by omega
              have HGain : Kept (r + 1 ≤ n1) := kp (by
                have h1 := HInv.out
                rw [hfe] at h1
                by_cases hfull : n0 < pg0.len
                · have := h1.gain HAc.out HIn.out (by rw [HN0.out]; exact hfull)
                  rw [HN0.out, HN1.out] at this; omega
                · have := cnt_mono pg0.len fun g _ hg => h1.mono g hg
                  rw [HN0.out, HN1.out] at this; omega)
              clear hltf hfe hbw
              go_wp2
              go_roundw
              case rel => exact ⟨r + 1, o, by omega, by go_num, by rw [HN1.out], by rw [HN1.out]; exact HGain.out, HO.out, HBw.out⟩
              case measure => simp [intOf]; omega
        · have hge : pg0.len ≤ r := by omega
          have hne : n0 = pg0.len := by omega
          have hneb : ((n0 : Int) == (pg0.len : Int)) = true := by rw [hne]; simp
          clear hlt hne
          go_wp2
          go_ret
          exact ⟨rfl, HW3.out.trans (HBw.out.mono hs3)⟩
    · have hcz : ((c : Int) != 0) = true := by simp; omega
      clear hc hc0
      go_enter Try.func6, Try.ntmps6
      go_wp2_with (first
        | ((with_reducible refine wpList_box_agg rfl 24 (.tmp 0) rfl (pgC pg0) rfl ?_); intro g1 u1 hg1 hk1 hu1; have HK1 := kp hk1; have HU1 := kp hu1; have hz1 := hu1.size; clear hg1 hk1 hu1))
      refine (awake_any u1).mono ?_
      rintro e w1 ⟨rfl, hb1⟩
      have HW1 : Kept (Below w.heap.size w w1) := kp (HU1.out.trans (hb1.mono hz1))
      have hs1 := HW1.out.size
      have HP1 := kp (HP.out.below HW1.out)
      have HKa := kp (HK1.out.below hb1 HK1.out.lt)
      obtain ⟨hc0, hc1, hc2, hc3⟩ := pg_cells HKa.out
      clear hb1
      go_wp2_with fail
      refine (ref_small _ pg0 w1 HP1.out hs1 _ HR.out).mono ?_
      rintro e w2 ⟨rfl, hb2⟩
      have HW2 : Kept (Below w.heap.size w w2) := kp (HW1.out.trans (hb2.mono hs1))
      have hs2 := HW2.out.size
      have HP2 := kp (HP.out.below HW2.out)
      have HKb := kp (HKa.out.below hb2 HKa.out.lt)
      clear hb2 hc0 hc1 hc2 hc3
      obtain ⟨hc0, hc1, hc2, hc3⟩ := pg_cells HKb.out
      go_wp2_with fail
      refine (prog_check _ pg0 w2 HP2.out hs2 HR.out a b c HC.out).mono ?_
      rintro e w3 ⟨rfl, hb3⟩
      have HW3 : Kept (Below w.heap.size w w3) := kp (HW2.out.trans (hb3.mono hs2))
      have hs3 := HW3.out.size
      have HKc := kp (HKb.out.below hb3 HKb.out.lt)
      clear hb3 hc0 hc1 hc2 hc3
      go_wp2
      go_ret
      exact ⟨rfl, HW3.out⟩
end Go.Proofs.Ytkglcmbpajfofaa
