/- GraphRef2, GraphRef3, GraphReach, GraphRef4, in one text. -/
import Derived.Test.YtfifnahcobjjdaaPk2
/- The document's own functions of layer 6, walked: Order. -/
namespace Go.Proofs.Ytfifnahcobjjdaa
open Go.RowKit

theorem Row.asInts {w : World} {B : Nat} {A : Option Addr} {n : Nat} {l : List Nat} (h : Row natV w B A n l) : Row intV w B A n (l.map fun x : Nat => (x : Int)) :=
  ⟨by rw [List.length_map]; exact h.len, fun h0 => by
    obtain ⟨ad, e, hb, hc⟩ := h.cells h0
    refine ⟨ad, e, hb, fun k hk => ?_⟩
    rw [hc k hk, List.getElem?_map]
    cases l[k]? <;> rfl⟩
theorem mem_ints {l : List Nat} {x : Nat} : (x : Int) ∈ l.map (fun y : Nat => (y : Int)) ↔ x ∈ l := by
  rw [List.mem_map]
  constructor
  · rintro ⟨a, ha, e⟩
    have : a = x := by omega
    rw [← this]; exact ha
  · intro h; exact ⟨x, h, rfl⟩
def lenV : Value → Nat
  | .slice _ n _ => n
  | _ => 0
/-- The least from k on that may come next, -1 if none. -/
def NextFrom (p : Pg) (l : List Nat) (k : Nat) (nx : Int) : Prop :=
  (nx = -1 ∧ ∀ g, k ≤ g → g < p.len → ¬ Free p l g) ∨ ∃ m : Nat, nx = (m : Int) ∧ k ≤ m ∧ m < p.len ∧ Free p l m ∧ ∀ g, k ≤ g → g < m → ¬ Free p l g
theorem NextFrom.skip {p : Pg} {l : List Nat} {k : Nat} {nx : Int} (h : NextFrom p l (k + 1) nx) (hn : ¬ Free p l k) : NextFrom p l k nx := by
  rcases h with ⟨h1, h2⟩ | ⟨m, h1, h2, h3, h4, h5⟩
  · refine .inl ⟨h1, fun g hg hl => ?_⟩
    by_cases hgk : g = k
    · subst hgk; exact hn
    · exact h2 g (by omega) hl
  · refine .inr ⟨m, h1, by omega, h3, h4, fun g hg hl => ?_⟩
    by_cases hgk : g = k
    · subst hgk; exact hn
    · exact h5 g (by omega) hl
theorem NextFrom.take {p : Pg} {l : List Nat} {k : Nat} (hk : k < p.len) (hf : Free p l k) : NextFrom p l k (k : Int) := .inr ⟨k, rfl, Nat.le_refl _, hk, hf, fun g h1 h2 => by omega⟩

set_option maxRecDepth 100000 in
set_option maxHeartbeats 4000000 in
theorem ref_order (B : Nat) (p : Pg) (w : World) (hp : p.Ok w B) (hB : B ≤ w.heap.size) (hf : Fine p) :
    Calls Try.prog 11 #[pgA p] w fun e w' => ∃ v l, e = .returned v ∧ IsOrd p l ∧ l.length = p.len ∧ Own w' w.heap.size 3 v (l.map natV) ∧ Below w.heap.size w w' := by
  have HP := kp hp; have HF := kp hf
  have HLen := kp hp.row.len
  have hl0 : 0 < p.len := by have h1 := hf.counts.f; have h2 := hp.row.len; omega
  have hl16 : p.len ≤ 16 := by have h1 := hf.counts.f; have h2 := hp.row.len; omega
  obtain ⟨ad, hA⟩ : ∃ ad, p.A = some ad := by
    obtain ⟨ad, _, e, _⟩ := hp.fn hl0
    exact ⟨ad, e⟩
  have HA := kp hA
  have hcap : p.len ≤ p.cap := hp.lc
  have hcapm := hp.cm
  unfold maxLen at hcapm
  clear hp hf hA
  rw [pgA_is]
  go_enter Try.func11, Try.ntmps11
  go_wp2_with (first
    | ((with_reducible refine wpList_box_agg rfl 24 (.tmp 0) rfl (pgC p) rfl ?_); intro g1 w3 hg1 hk1 hu1; have HKc := kp hk1; have HW3 := kp hu1; have hs3 := hu1.size; clear hg1 hk1 hu1))
  have HPW : Kept (∀ W, Below w3.heap.size w3 W → p.Ok W B) := kp fun W hW => HP.out.below (HW3.out.mono hB |>.trans (hW.mono (by omega)))
  have HC3 : Kept (∀ W, Below w3.heap.size w3 W → W.cell? ⟨g1, 3, none⟩ = some (.slice (some ad) p.len p.cap)) := kp fun W hW => by rw [← HA.out]; exact (pg_cells (HKc.out.below hW HKc.out.lt)).2.2.2
  have HSZ : Kept (∀ W, Below w3.heap.size w3 W → B ≤ W.heap.size ∧ w.heap.size ≤ W.heap.size) := kp fun W hW => by have := hW.size; omega
  go_loopw [3] (fun v3 wr => ∃ l : List Nat, IsOrd p l ∧ l.length ≤ p.len ∧ lenV v3 = l.length ∧ Own wr w3.heap.size 3 v3 (l.map natV) ∧ Below w3.heap.size w3 wr) (fun v3 _ => p.len - lenV v3)
  case atStart => exact ⟨[], ord_nil p, by simp, rfl, Own.nil _ _ _, Below.refl _ _⟩
  case round =>
    obtain ⟨l, hord, hll, hlv, hown, hbw⟩ := hrel
    obtain ⟨n0, hn0⟩ : ∃ n, l.length = n := ⟨_, rfl⟩
    obtain ⟨A3, c3, rfl, hc3, hm3, hr3⟩ := Own.readsN hown hn0
    have HOrd := kp hord; have HOwn := kp hown; have HBw := kp hbw; have HN0 := kp hn0
    have hcc := HC3.out wr hbw
    have hm33 : c3 ≤ 9223372036854775807 := by unfold maxLen at hm3; omega
    rw [hn0] at hll
    clear hord hown hbw hn0 hr3 hm3 hlv
    by_cases hlt : n0 < p.len
    · go_wp2
      go_loopw [4, 5] (fun v4 v5 wr => ∃ (k : Nat) (nx : Int), k ≤ p.len ∧ v5 = .int .i64 ((k : Int) - 1) ∧ v4 = .int .i64 nx ∧ NextFrom p l k nx ∧ Own wr w3.heap.size 3 (.slice A3 n0 c3) (l.map natV) ∧ Below w3.heap.size w3 wr) (fun _ v5 _ => (intOf v5 + 1).toNat)
      case atStart => exact ⟨p.len, -1, Nat.le_refl _, by go_num, rfl, .inl ⟨rfl, fun g h1 h2 => by omega⟩, HOwn.out, HBw.out⟩
      case round =>
        clear HOwn HBw hcc
        obtain ⟨k, nx, hk, rfl, rfl, hnx, hown, hbw⟩ := hrel
        have HNx := kp hnx; have HOwn := kp hown; have HBw := kp hbw
        have hcc := HC3.out wr hbw
        obtain ⟨hsB, hsw⟩ := HSZ.out wr hbw
        obtain ⟨A', c', e', _, _, hr3⟩ := Own.readsN hown HN0.out
        cases e'
        have HR3 := kp hr3
        clear hnx hown hr3
        by_cases hk0 : 0 < k
        · obtain ⟨f, rfl⟩ : ∃ f, k = f + 1 := ⟨k - 1, by omega⟩
          have hfe : ((f + 1 : Nat) : Int) - 1 = (f : Int) := by omega
          rw [hfe]
          obtain ⟨ad0, fn, e0, _, hfn, hfok, hcf⟩ := (HPW.out wr hbw).fn (k := f) (by omega)
          rw [HA.out] at e0
          cases e0
          have HFn := kp hfn; have HFok := kp hfok
          have hflm : fn.len ≤ 64 := by
            have h1 := Q.fine_fn hfn (HF.out.nodes f (by rw [HLen.out]; omega))
            have h2 := hfok.nodes.1.len
            omega
          have hfcm := hfok.cm
          have hflc := hfok.lc
          unfold maxLen at hfcm
          obtain ⟨b0, hb0⟩ : ∃ b0 : Bool, b0 = true ↔ (f : Int) ∈ l.map (fun y : Nat => (y : Int)) := by
            by_cases h : (f : Int) ∈ l.map (fun y : Nat => (y : Int))
            · exact ⟨true, by simp [h]⟩
            · exact ⟨false, by simp [h]⟩
          have HB0 := kp hb0
          obtain ⟨cs, hcs⟩ : ∃ cs, namedL fn.nodes 7 = cs := ⟨_, rfl⟩
          obtain ⟨nc, hnc⟩ : ∃ nc, cs.length = nc := ⟨_, rfl⟩
          have hnc32 : nc ≤ 32 := by rw [← hnc, ← hcs]; exact namedTo_len _ _ _
          have HCs := kp hcs; have HNc := kp hnc
          clear hfn hfok hb0 hcs hnc hbw hfe
          go_wp2_with (first
            | (go_at_call 24; go_must (refine (ref_has6 _ A3 n0 c3 _ (f : Int) wr HR3.out.asInts (by omega) b0 HB0.out).mono ?_); rintro e w' ⟨rfl, rfl⟩)
            | (go_at_call 25; go_must (refine (ref_named B fn.A fn.len fn.cap fn.nodes 7 wr HFok.out.nodes (by omega) hsB).mono ?_); rintro e w7 ⟨v7, rfl, hown7, hb7⟩
               rw [HCs.out] at hown7
               obtain ⟨A7, c7, rfl, hc7, hm7, hr7⟩ := Own.readsN hown7 HNc.out
               have HR7 := kp hr7
               have HB7 : Kept (Below w3.heap.size w3 w7) := kp (HBw.out.trans (hb7.mono (HBw.out.size)))
               have HO7 := kp (HOwn.out.below hb7 (Nat.le_refl _))
               have HR37 := kp ((HR3.out.below hb7).more hb7.size)
               have hm77 : c7 ≤ 9223372036854775807 := by unfold maxLen at hm7; omega
               clear hown7 hb7 hm7 hr7 hcc hcf))
          go_loop [6, 8] (fun v6 v8 => ∃ (i : Nat) (b : Bool), i ≤ nc ∧ v8 = .int .i64 i ∧ v6 = .bool b ∧ (b = true ↔ f ∉ l ∧ ∀ (j y : Nat), j < i → cs[j]? = some y → y ∈ l)) (fun _ v8 => nc - (intOf v8).toNat)
          case atStart => exact ⟨0, !b0, by omega, rfl, rfl, by
            have h1 := HB0.out
            rw [mem_ints] at h1
            cases b0
            · simp at h1; simp [h1]
            · simp at h1; simp [h1]⟩
          case round =>
            obtain ⟨i, b, hi, rfl, rfl, hfree⟩ := hrel
            have HFr := kp hfree
            clear hfree
            by_cases hlti : i < nc
            · obtain ⟨ad7, y, rfl, _, hy, hcy⟩ := HR7.out.get hlti
              rw [natV_def] at hcy
              have HY := kp hy
              clear hy
              obtain ⟨by_, hby⟩ : ∃ b1 : Bool, b1 = true ↔ (y : Int) ∈ l.map (fun y : Nat => (y : Int)) := by
                by_cases h : (y : Int) ∈ l.map (fun y : Nat => (y : Int))
                · exact ⟨true, by simp [h]⟩
                · exact ⟨false, by simp [h]⟩
              have HBy := kp hby
              have HNew : Kept ((b && by_) = true ↔ f ∉ l ∧ ∀ (j z : Nat), j < i + 1 → cs[j]? = some z → z ∈ l) := kp (by
                have h1 := HBy.out
                rw [mem_ints] at h1
                rw [Bool.and_eq_true, HFr.out, h1]
                constructor
                · rintro ⟨⟨h2, h3⟩, h4⟩
                  refine ⟨h2, fun j z hj hz => ?_⟩
                  by_cases hji : j = i
                  · subst hji; rw [HY.out] at hz; cases hz; exact h4
                  · exact h3 j z (by omega) hz
                · rintro ⟨h2, h3⟩
                  exact ⟨⟨h2, fun j z hj hz => h3 j z (by omega) hz⟩, h3 i y (by omega) HY.out⟩)
              clear hby
              cases b
              · go_wp2
                go_round
                case rel => exact ⟨i + 1, false, by omega, by go_num, rfl, HNew.out⟩
                case measure => simp [intOf]; omega
              · go_wp2_with (go_at_call 24; go_must (refine (ref_has6 _ A3 n0 c3 _ (y : Int) w7 HR37.out.asInts (by omega) by_ HBy.out).mono ?_); rintro e w' ⟨rfl, rfl⟩)
                go_round
                case rel => exact ⟨i + 1, by_, by omega, by go_num, rfl, by have h := HNew.out; rw [Bool.true_and] at h; exact h⟩
                case measure => simp [intOf]; omega
            · have hgei : nc ≤ i := by omega
              have HFree : Kept (b = true ↔ Free p l f) := kp (by
                rw [HFr.out, free_iff HF.out HLen.out HFn.out, HCs.out]
                constructor
                · rintro ⟨h1, h2⟩
                  refine ⟨h1, fun y hy => ?_⟩
                  obtain ⟨j, hj⟩ := List.mem_iff_getElem?.1 hy
                  have := (List.getElem?_eq_some_iff.1 hj).1
                  rw [HNc.out] at this
                  exact h2 j y (by omega) hj
                · rintro ⟨h1, h2⟩
                  exact ⟨h1, fun j y _ hy => h2 y (List.mem_of_getElem? hy)⟩)
              clear hlti
              cases b
              · go_wp2
                go_roundw
                case rel => exact ⟨f, nx, by omega, by go_num, rfl, HNx.out.skip (fun h => by have := HFree.out.2 h; cases this), HO7.out, HB7.out⟩
                case measure => simp [intOf]
              · go_wp2
                go_roundw
                case rel => exact ⟨f, f, by omega, by go_num, rfl, NextFrom.take (by omega) (HFree.out.1 rfl), HO7.out, HB7.out⟩
                case measure => simp [intOf]
        · have hk00 : k = 0 := by omega
          obtain ⟨m, hnm, hml, hfm, hless⟩ : ∃ m : Nat, nx = (m : Int) ∧ m < p.len ∧ Free p l m ∧ ∀ g, g < m → ¬ Free p l g := by
            have h1 := HNx.out
            rw [hk00] at h1
            rcases h1 with ⟨_, h2⟩ | ⟨m, h2, _, h3, h4, h5⟩
            · exfalso
              obtain ⟨f, hf1, hf2⟩ := ord_next (l := l) HF.out HLen.out (by rw [HN0.out, HLen.out]; exact hlt)
              exact h2 f (Nat.zero_le _) (by rw [← HLen.out]; exact hf1) hf2
            · exact ⟨m, h2, h3, h4, fun g hg => h5 g (Nat.zero_le _) hg⟩
          subst hnm
          have HNew := kp (ord_snoc HOrd.out (by rw [HLen.out]; exact hml) hfm hless)
          have hkz : (k : Int) - 1 < 0 := by omega
          clear hk0 hfm hless hbw hk00
          go_wp2_with (at_builtin; go_must (refine wpList_append_one rfl (.tmp 53) (.tmp 55) 27 rfl w3.heap.size 3 _ _ Try.underlying27 int_info rfl _ _ _ _ rfl HOwn.out _ 1 rfl rfl rfl (by simp [maxLen, HN0.out]; omega) (by simp [HN0.out]; omega) HBw.out.size ?_); intro v9 w9 hown9 hg9; have HG9 := kp hg9; clear hg9)
          have hown9' : Own w9 w3.heap.size 3 v9 ((l ++ [m]).map natV) := by rw [List.map_append]; exact hown9
          obtain ⟨A9, c9, e9, _⟩ := Own.readsN hown9' (n := n0 + 1) (by rw [List.length_append, HN0.out]; rfl)
          subst e9
          have HO9 := kp hown9'
          have HBf : Kept (Below w3.heap.size w3 w9) := kp (HG9.out.below HBw.out HOwn.out HBw.out.size)
          clear hown9 hown9'
          go_roundw
          case rel => exact ⟨l ++ [m], HNew.out, by rw [List.length_append, HN0.out]; show n0 + 1 ≤ p.len; omega, by rw [List.length_append, HN0.out]; rfl, HO9.out, HBf.out⟩
          case measure => simp [lenV]; omega
    · have hge : p.len ≤ n0 := by omega
      clear hlt
      go_wp2
      go_ret
      exact ⟨_, l, rfl, HOrd.out, by rw [HN0.out]; omega, HOwn.out.less hs3, HW3.out.trans (HBw.out.mono hs3)⟩
end Go.Proofs.Ytfifnahcobjjdaa

/- The document's own functions of layer 6, walked: After. -/
namespace Go.Proofs.Ytfifnahcobjjdaa
open Go.RowKit

theorem succ_len2 (x : Nd) : (Q.succ x).length ≤ 2 := by unfold Q.succ; split <;> (try split) <;> simp
theorem succ_i64 {x : Nd} (h : x.Ok) : ∀ y ∈ Q.succ x, I64 y := by
  intro y hy
  unfold Q.succ at hy
  split at hy
  · cases hy
  · split at hy
    · simp only [List.mem_cons, List.not_mem_nil, or_false] at hy
      rcases hy with rfl | rfl
      · exact h.next
      · exact h.alt
    · simp only [List.mem_cons, List.not_mem_nil, or_false] at hy
      subst hy; exact h.next
/-- Flags, as cells. -/
def outB (o : Nat → Bool) (n : Nat) : List Value := (List.range n).map fun g => .bool (o g)
theorem outB_at (o : Nat → Bool) (n f : Nat) (hf : f < n) : (outB o n)[f]? = some (.bool (o f)) := by
  unfold outB
  rw [List.getElem?_map, List.getElem?_range hf]; rfl
theorem outB_len (o : Nat → Bool) (n : Nat) : (outB o n).length = n := by simp [outB]
theorem outB_set (o : Nat → Bool) (n f : Nat) : (outB o n).set f (.bool true) = outB (fun g => if g = f then true else o g) n := by
  apply List.ext_getElem?
  intro i
  by_cases hi : i < n
  · rw [outB_at _ n i hi]
    by_cases hif : f = i
    · subst hif
      rw [List.getElem?_set_self (by rw [outB_len]; exact hi), if_pos rfl]
    · rw [List.getElem?_set_ne hif, outB_at _ n i hi, if_neg (fun e => hif e.symm)]
  · rw [List.getElem?_eq_none (by rw [List.length_set, outB_len]; omega), List.getElem?_eq_none (by rw [outB_len]; omega)]
theorem outB_zero (n : Nat) : List.replicate n (Value.bool false) = outB (fun _ => false) n := by
  apply List.ext_getElem?
  intro i
  by_cases hi : i < n
  · rw [outB_at _ n i hi, List.getElem?_replicate, if_pos hi]
  · rw [List.getElem?_eq_none (by rw [List.length_replicate]; omega), List.getElem?_eq_none (by rw [outB_len]; omega)]
theorem bool_info : (Try.prog.info? 4).map (fun i => (i.zero, i.size, i.bytes)) = some (some (.bool false), 1, 1) := by kernel_rfl

set_option maxRecDepth 100000 in
set_option maxHeartbeats 4000000 in
theorem ref_after (B : Nat) (A : Option Addr) (n c : Nat) (l : List Nd) (A2 : Option Addr) (n2 c2 : Nat) (fr : List Int) (w : World) (hr : Nodes w B A n l) (hr2 : Row intV w B A2 n2 fr) (hn : n ≤ 100000) (hn2 : n2 ≤ 100000) (hB : B ≤ w.heap.size) :
    Calls Try.prog 15 #[.slice A n c, .slice A2 n2 c2] w fun e w' => ∃ v o, e = .returned v ∧ (∀ i, i < n → (o i = true ↔ Behind l fr i)) ∧ Own w' w.heap.size 4 v (outB o n) ∧ Below w.heap.size w w' := by
  have HR := kp hr; have HR2 := kp hr2
  have HLn := kp hr.1.len
  clear hr hr2
  go_enter Try.func15, Try.ntmps15
  go_wp2_with (first
    | ((with_reducible show wpList _ _ _ (⟨some 12, _, _, _, _, _⟩ :: _) _ _); go_must (refine wpList_make_blk rfl 42 (.tmp 11) (.tmp 11) rfl 4 (.bool false) 1 Try.underlying42 bool_info rfl .i64 .i64 n n rfl rfl (by omega) (by omega) (by omega) ?_); intro go w1 hgo hk1 hw1; rw [outB_zero] at hk1; have HO1 := kp hk1; have HW1 := kp hw1; clear hk1 hw1))
  go_loopw [6] (fun v6 wr => ∃ (r : Nat) (o : Nat → Bool), r ≤ n + 1 ∧ v6 = .int .i64 r ∧ Sound l fr o ∧ (Closed l fr o ∨ r ≤ cnt o l.length) ∧ Blk wr go 4 (outB o n) ∧ Below w.heap.size w wr) (fun v6 _ => n + 1 - (intOf v6).toNat)
  case atStart => exact ⟨0, fun _ => false, by omega, rfl, (fun i h => by cases h), .inr (Nat.zero_le _), HO1.out, HW1.out⟩
  case round =>
    clear HO1 HW1
    obtain ⟨r, o0, hr, rfl, hsd, hcl, hob, hbw⟩ := hrel
    have HSd := kp hsd; have HCl := kp hcl; have HO0 := kp hob; have HBw := kp hbw
    clear hsd hcl hob hbw
    by_cases hlt : r ≤ n
    · go_wp2
      go_loopw [7] (fun v7 wr => ∃ (i : Nat) (o : Nat → Bool), i ≤ n ∧ v7 = .int .i64 i ∧ RoundInv l fr o0 o i ∧ Blk wr go 4 (outB o n) ∧ Below w.heap.size w wr) (fun v7 _ => n - (intOf v7).toNat)
      case atStart => exact ⟨0, o0, by omega, rfl, RoundInv.start HSd.out, HO0.out, HBw.out⟩
      case round =>
        clear HO0 HBw
        obtain ⟨i, o, hi, rfl, hinv, hob, hbw⟩ := hrel
        have HInv := kp hinv; have HO := kp hob; have HBw := kp hbw
        have hsz := hbw.size
        have hgo2 := hob.lt
        have HRw : Kept (Nodes wr B A n l) := kp (HR.out.keep fun p hp => hbw.cell (by omega))
        have HR2w : Kept (Row intV wr B A2 n2 fr) := kp (HR2.out.keep fun p hp => hbw.cell (by omega))
        clear hinv hob hbw
        by_cases hlti : i < n
        · obtain ⟨ad, nd, rfl, hab, hnd, hndok, he0, he1, he2, he3⟩ := HRw.out.get hlti
          have HNd := kp hnd
          obtain ⟨b0, hb0⟩ : ∃ b0 : Bool, b0 = true ↔ (i : Int) ∈ fr := by
            by_cases h : (i : Int) ∈ fr
            · exact ⟨true, by simp [h]⟩
            · exact ⟨false, by simp [h]⟩
          have HB0 := kp hb0
          obtain ⟨bo, hbo⟩ : ∃ bo, o i = bo := ⟨_, rfl⟩
          have HBo := kp hbo
          have ho : wr.cell? ⟨go, i, none⟩ = some (.bool bo) := by rw [← hbo]; exact (HO.out.cell i).trans (outB_at o n i hlti)
          clear hnd hb0 hbo
          by_cases hst : b0 = false ∧ bo = false
          · obtain ⟨rfl, rfl⟩ := hst
            have HNs : Kept (¬ Start fr o i) := kp (by
              rintro (h | h)
              · have := HB0.out.2 h; cases this
              · rw [HBo.out] at h; cases h)
            go_wp2_with (go_at_call 24; go_must (refine (ref_has6 B A2 n2 c2 fr (i : Int) wr HR2w.out (by omega) false HB0.out).mono ?_); rintro e w' ⟨rfl, rfl⟩)
            go_roundw
            case rel => exact ⟨i + 1, o, by omega, by go_num, HInv.out.skip HNs.out, HO.out, HBw.out⟩
            case measure => simp [intOf]; omega
          · have HSt : Kept (Start fr o i) := kp (by
              cases hb : b0
              · cases hb2 : bo
                · exact absurd ⟨hb, hb2⟩ hst
                · exact .inr (by rw [HBo.out, hb2])
              · exact .inl (HB0.out.1 hb))
            obtain ⟨us, hus⟩ : ∃ us, Q.succ nd = us := ⟨_, rfl⟩
            obtain ⟨nu, hnu⟩ : ∃ nu, us.length = nu := ⟨_, rfl⟩
            have hnu2 : nu ≤ 2 := by rw [← hnu, ← hus]; have := succ_len2 nd; exact this
            have HI64 : Kept (∀ y ∈ us, I64 y) := kp (by rw [← hus]; exact succ_i64 hndok)
            have HUs := kp hus; have HNu := kp hnu
            have hbb : (b0 = true) ∨ (b0 = false ∧ bo = true) := by
              cases hb : b0
              · cases hb2 : bo
                · exact absurd ⟨hb, hb2⟩ hst
                · exact .inr ⟨rfl, rfl⟩
              · exact .inl rfl
            clear hst hus hnu hndok
            rcases hbb with rfl | ⟨rfl, rfl⟩
            · go_wp2_with (first
                | (go_at_call 24; go_must (refine (ref_has6 B A2 n2 c2 fr (i : Int) wr HR2w.out (by omega) true HB0.out).mono ?_); rintro e w' ⟨rfl, rfl⟩)
                | (go_at_call 13; go_must (refine (ref_succ nd wr).mono ?_); rintro e w7 ⟨v7, rfl, hown7, hb7⟩
                   rw [HUs.out] at hown7
                   obtain ⟨A7, c7, rfl, hc7, hm7, hr7⟩ := Own.readsN hown7 HNu.out
                   have HBk7 := kp hown7.block
                   have HR7 := kp hr7
                   have HO7 := kp (HO.out.below hb7 hgo2)
                   have HB7 : Kept (Below w.heap.size w w7) := kp (HBw.out.trans (hb7.mono hsz))
                   have hz7 := hb7.size
                   have hm77 : c7 ≤ 9223372036854775807 := by unfold maxLen at hm7; omega
                   clear hown7 hb7 hm7 hr7 ho he0 he1 he2 he3))
              go_loopw [9] (fun v9 wr => ∃ (k : Nat) (o' : Nat → Bool), k ≤ nu ∧ v9 = .int .i64 k ∧ StepInv l o o' us k ∧ Blk wr go 4 (outB o' n) ∧ Row intV wr w7.heap.size A7 nu us ∧ w7.heap.size ≤ wr.heap.size ∧ Below w.heap.size w wr) (fun v9 _ => nu - (intOf v9).toNat)
              case atStart => exact ⟨0, o, by omega, rfl, StepInv.start l o us, HO7.out, HR7.out, Nat.le_refl _, HB7.out⟩
              case round =>
                clear HO7 HR7 HB7 HO HBw HRw HR2w
                obtain ⟨k, o', hk, rfl, hstep, hob, hr7, HR7sz, hbw⟩ := hrel
                have HStep := kp hstep; have HO := kp hob; have HR7 := kp hr7; have HBw := kp hbw
                have hsz2 := hbw.size
                clear hstep hob hr7 hbw
                by_cases hltk : k < nu
                · obtain ⟨ad7, y, e7, had7, hy, hcy⟩ := HR7.out.get hltk
                  rw [intV_def] at hcy
                  have HY := kp hy
                  have hI := HI64.out y (List.mem_of_getElem? hy)
                  obtain ⟨hI1, hI2⟩ := hI
                  have h7g : ad7.block ≠ go := by
                    have := HBk7.out ad7.block (by rw [e7]; rfl)
                    omega
                  subst e7
                  clear hy
                  by_cases hin : 0 ≤ y ∧ y < (n : Int)
                  · obtain ⟨yn, rfl⟩ : ∃ yn : Nat, y = (yn : Int) := ⟨y.toNat, by omega⟩
                    have hyn : yn < n := by omega
                    have hcg : wr.cell? ⟨go, yn, none⟩ = some (.bool (o' yn)) := (HO.out.cell yn).trans (outB_at o' n yn hyn)
                    have hfg := HO.out.frozen yn
                    have HSt2 := kp (HStep.out.set HY.out (by rw [HLn.out]; exact hyn))
                    clear hin
                    go_wp2
                    go_roundw
                    case rel => exact ⟨k + 1, fun g => if g = yn then true else o' g, by omega, by go_num, HSt2.out, by rw [← outB_set]; exact HO.out.set yn _, HR7.out.grown (grown_set (g := go) (grown_refl _ _)) (by have := HR7sz; omega) (fun a _ e e2 => by cases e; cases e2; exact h7g rfl), by simpa using HR7sz, HBw.out.grown (grown_set (g := go) (grown_refl _ _)) hsz2 (by intro b e; cases e; exact hgo)⟩
                    case measure => simp [intOf]; omega
                  · have HSt2 := kp (HStep.out.skip HY.out (by rw [HLn.out]; exact hin))
                    by_cases hneg : y < 0
                    · clear hin
                      go_wp2
                      go_roundw
                      case rel => exact ⟨k + 1, o', by omega, by go_num, HSt2.out, HO.out, HR7.out, HR7sz, HBw.out⟩
                      case measure => simp [intOf]; omega
                    · have hyge : (n : Int) ≤ y := by omega
                      clear hin
                      go_wp2
                      go_roundw
                      case rel => exact ⟨k + 1, o', by omega, by go_num, HSt2.out, HO.out, HR7.out, HR7sz, HBw.out⟩
                      case measure => simp [intOf]; omega
                · have hgek : nu ≤ k := by omega
                  have hke : k = (Q.succ nd).length := by rw [HUs.out, HNu.out]; omega
                  have HNext := kp (HInv.out.step HNd.out HSt.out (by have h := HStep.out; rw [hke, ← HUs.out] at h; exact h))
                  clear hltk hke
                  go_wp2
                  go_roundw
                  case rel => exact ⟨i + 1, o', by omega, by go_num, HNext.out, HO.out, HBw.out⟩
                  case measure => simp [intOf]; omega
            · go_wp2_with (first
                | (go_at_call 24; go_must (refine (ref_has6 B A2 n2 c2 fr (i : Int) wr HR2w.out (by omega) false HB0.out).mono ?_); rintro e w' ⟨rfl, rfl⟩)
                | (go_at_call 13; go_must (refine (ref_succ nd wr).mono ?_); rintro e w7 ⟨v7, rfl, hown7, hb7⟩
                   rw [HUs.out] at hown7
                   obtain ⟨A7, c7, rfl, hc7, hm7, hr7⟩ := Own.readsN hown7 HNu.out
                   have HBk7 := kp hown7.block
                   have HR7 := kp hr7
                   have HO7 := kp (HO.out.below hb7 hgo2)
                   have HB7 : Kept (Below w.heap.size w w7) := kp (HBw.out.trans (hb7.mono hsz))
                   have hz7 := hb7.size
                   have hm77 : c7 ≤ 9223372036854775807 := by unfold maxLen at hm7; omega
                   clear hown7 hb7 hm7 hr7 ho he0 he1 he2 he3))
              go_loopw [9] (fun v9 wr => ∃ (k : Nat) (o' : Nat → Bool), k ≤ nu ∧ v9 = .int .i64 k ∧ StepInv l o o' us k ∧ Blk wr go 4 (outB o' n) ∧ Row intV wr w7.heap.size A7 nu us ∧ w7.heap.size ≤ wr.heap.size ∧ Below w.heap.size w wr) (fun v9 _ => nu - (intOf v9).toNat)
              case atStart => exact ⟨0, o, by omega, rfl, StepInv.start l o us, HO7.out, HR7.out, Nat.le_refl _, HB7.out⟩
              case round =>
                clear HO7 HR7 HB7 HO HBw HRw HR2w
                obtain ⟨k, o', hk, rfl, hstep, hob, hr7, HR7sz, hbw⟩ := hrel
                have HStep := kp hstep; have HO := kp hob; have HR7 := kp hr7; have HBw := kp hbw
                have hsz2 := hbw.size
                clear hstep hob hr7 hbw
                by_cases hltk : k < nu
                · obtain ⟨ad7, y, e7, had7, hy, hcy⟩ := HR7.out.get hltk
                  rw [intV_def] at hcy
                  have HY := kp hy
                  have hI := HI64.out y (List.mem_of_getElem? hy)
                  obtain ⟨hI1, hI2⟩ := hI
                  have h7g : ad7.block ≠ go := by
                    have := HBk7.out ad7.block (by rw [e7]; rfl)
                    omega
                  subst e7
                  clear hy
                  by_cases hin : 0 ≤ y ∧ y < (n : Int)
                  · obtain ⟨yn, rfl⟩ : ∃ yn : Nat, y = (yn : Int) := ⟨y.toNat, by omega⟩
                    have hyn : yn < n := by omega
                    have hcg : wr.cell? ⟨go, yn, none⟩ = some (.bool (o' yn)) := (HO.out.cell yn).trans (outB_at o' n yn hyn)
                    have hfg := HO.out.frozen yn
                    have HSt2 := kp (HStep.out.set HY.out (by rw [HLn.out]; exact hyn))
                    clear hin
                    go_wp2
                    go_roundw
                    case rel => exact ⟨k + 1, fun g => if g = yn then true else o' g, by omega, by go_num, HSt2.out, by rw [← outB_set]; exact HO.out.set yn _, HR7.out.grown (grown_set (g := go) (grown_refl _ _)) (by have := HR7sz; omega) (fun a _ e e2 => by cases e; cases e2; exact h7g rfl), by simpa using HR7sz, HBw.out.grown (grown_set (g := go) (grown_refl _ _)) hsz2 (by intro b e; cases e; exact hgo)⟩
                    case measure => simp [intOf]; omega
                  · have HSt2 := kp (HStep.out.skip HY.out (by rw [HLn.out]; exact hin))
                    by_cases hneg : y < 0
                    · clear hin
                      go_wp2
                      go_roundw
                      case rel => exact ⟨k + 1, o', by omega, by go_num, HSt2.out, HO.out, HR7.out, HR7sz, HBw.out⟩
                      case measure => simp [intOf]; omega
                    · have hyge : (n : Int) ≤ y := by omega
                      clear hin
                      go_wp2
                      go_roundw
                      case rel => exact ⟨k + 1, o', by omega, by go_num, HSt2.out, HO.out, HR7.out, HR7sz, HBw.out⟩
                      case measure => simp [intOf]; omega
                · have hgek : nu ≤ k := by omega
                  have hke : k = (Q.succ nd).length := by rw [HUs.out, HNu.out]; omega
                  have HNext := kp (HInv.out.step HNd.out HSt.out (by have h := HStep.out; rw [hke, ← HUs.out] at h; exact h))
                  clear hltk hke
                  go_wp2
                  go_roundw
                  case rel => exact ⟨i + 1, o', by omega, by go_num, HNext.out, HO.out, HBw.out⟩
                  case measure => simp [intOf]; omega
        · have hge : n ≤ i := by omega
          have hie : i = l.length := by rw [HLn.out]; omega
          have HG : Kept (Closed l fr o ∨ r + 1 ≤ cnt o l.length) := kp (by have h := HInv.out; rw [hie] at h; exact h.gain HCl.out)
          have HSd2 := kp HInv.out.sound
          clear hlti hie
          go_wp2
          go_roundw
          case rel => exact ⟨r + 1, o, by omega, by go_num, HSd2.out, HG.out, HO.out, HBw.out⟩
          case measure => simp [intOf]; omega
    · have hgt : n < r := by omega
      have hre : r = l.length + 1 := by rw [HLn.out]; omega
      have HCe : Kept (Closed l fr o0) := kp (closed_end (by have h := HCl.out; rw [hre] at h; exact h))
      clear hlt hre
      go_wp2
      go_ret
      refine ⟨_, o0, rfl, fun i hi => ⟨fun h => (HSd.out i h).2, fun h => closed_all HCe.out h⟩, ?_, HBw.out⟩
      have h := Blk.own (xs := outB o0 n) HO0.out hgo (outB_len o0 n) (by rw [outB_len]; exact Nat.le_refl _) (by simp [maxLen]; omega) (by rw [outB_len]; exact List.take_of_length_le (by rw [outB_len]; exact Nat.le_refl _))
      rw [outB_len] at h
      exact h
end Go.Proofs.Ytfifnahcobjjdaa

/- Which functions some come to by calls, round by round, on plain data. -/
namespace Go.Proofs.Ytfifnahcobjjdaa
open Go.RowKit

/-- A call of a function that there is. -/
def CallIn (p : Pg) (x y : Nat) : Prop := Q.calls p x y ∧ y < p.len
/-- One of these, or come to by calls. -/
def Comes (p : Pg) (from_ : Nat → Prop) (f : Nat) : Prop := f < p.len ∧ (from_ f ∨ ∃ j, from_ j ∧ j < p.len ∧ Q.Reach (CallIn p) p.len j f)
def Shut (p : Pg) (o : Nat → Bool) : Prop := ∀ j i, j < p.len → o j = true → CallIn p j i → o i = true
def Right (p : Pg) (from_ : Nat → Prop) (o : Nat → Bool) : Prop := ∀ i, o i = true → Comes p from_ i
theorem comes_call {p : Pg} {from_ : Nat → Prop} {j i : Nat} (h : Comes p from_ j) (hc : CallIn p j i) : Comes p from_ i := by
  refine ⟨hc.2, .inr ?_⟩
  rcases h with ⟨hj, h | ⟨k, hk, hkl, hr⟩⟩
  · exact ⟨j, h, hj, .one hc⟩
  · exact ⟨k, hk, hkl, hr.trans hj (.one hc)⟩
theorem shut_all {p : Pg} {from_ : Nat → Prop} {o : Nat → Bool} (hs : Shut p o) (h0 : ∀ j, from_ j → j < p.len → o j = true) {f : Nat} (h : Comes p from_ f) : o f = true := by
  obtain ⟨hf, h | ⟨j, hj, hjl, hr⟩⟩ := h
  · exact h0 f h hf
  · have key : ∀ x y, Q.Reach (CallIn p) p.len x y → x < p.len → o x = true → o y = true := by
      intro x y hr
      induction hr with
      | one he => intro hx ho; exact hs _ _ hx ho he
      | more he hk _ ih => intro hx ho; exact ih hk (hs _ _ hx ho he)
    exact key j f hr hjl (h0 j hj hjl)
structure CallInv (p : Pg) (from_ : Nat → Prop) (o0 o : Nat → Bool) (i : Nat) : Prop where
  mono : ∀ g, o0 g = true → o g = true
  right : Right p from_ o
  done : ∀ j y, j < i → o0 j = true → CallIn p j y → o y = true
  keep : Shut p o0 → ∀ g, o g = true → o0 g = true
theorem CallInv.start {p : Pg} {from_ : Nat → Prop} {o : Nat → Bool} (h : Right p from_ o) : CallInv p from_ o o 0 := ⟨fun _ h => h, h, fun j y hj => by omega, fun _ _ h => h⟩
/-- Its calls, one by one: k of the ids cs are done. -/
structure NameInv (n : Nat) (o o' : Nat → Bool) (f : Nat) (cs : List Nat) (k : Nat) : Prop where
  mono : ∀ g, o g = true → o' g = true
  self : o' f = true → o f = true
  new : ∀ g, o' g = true → o g = true ∨ (o f = true ∧ g < n ∧ g ∈ cs)
  done : ∀ (j g : Nat), j < k → cs[j]? = some g → g < n → o f = true → o' g = true
theorem NameInv.start (n : Nat) (o : Nat → Bool) (f : Nat) (cs : List Nat) : NameInv n o o f cs 0 := ⟨fun _ h => h, fun h => h, fun _ h => .inl h, fun j g hj => by omega⟩
theorem NameInv.skip {n : Nat} {o o' : Nat → Bool} {f : Nat} {cs : List Nat} {k y : Nat} (h : NameInv n o o' f cs k) (hy : cs[k]? = some y) (hn : ¬ (o' f = true ∧ y < n)) : NameInv n o o' f cs (k + 1) := by
  refine ⟨h.mono, h.self, h.new, fun j g hj hjs hg hof => ?_⟩
  by_cases hjk : j = k
  · subst hjk; rw [hy] at hjs; cases hjs; exact absurd ⟨h.mono f hof, hg⟩ hn
  · exact h.done j g (by omega) hjs hg hof
theorem NameInv.set {n : Nat} {o o' : Nat → Bool} {f : Nat} {cs : List Nat} {k y : Nat} (h : NameInv n o o' f cs k) (hy : cs[k]? = some y) (hf : o' f = true) (hlt : y < n) : NameInv n o (fun g => if g = y then true else o' g) f cs (k + 1) := by
  have hf2 := h.self hf
  refine ⟨fun g hg => ?_, fun _ => hf2, fun g hg => ?_, fun j g hj hjs hg hof => ?_⟩
  · split
    · rfl
    · exact h.mono g hg
  · by_cases hgy : g = y
    · subst hgy; exact .inr ⟨hf2, hlt, List.mem_of_getElem? hy⟩
    · simp only [if_neg hgy] at hg
      rcases h.new g hg with h1 | ⟨h1, h2, h3⟩
      · exact .inl h1
      · exact .inr ⟨hf2, h2, h3⟩
  · by_cases hgy : g = y
    · rw [if_pos hgy]
    · rw [if_neg hgy]
      by_cases hjk : j = k
      · subst hjk; rw [hy] at hjs; cases hjs; exact absurd rfl hgy
      · exact h.done j g (by omega) hjs hg hof
/-- A function is done. -/
theorem CallInv.step {p : Pg} {from_ : Nat → Prop} {o0 o o' : Nat → Bool} {i : Nat} {fn : Fn} (h : CallInv p from_ o0 o i) (hl : p.fns.length = p.len) (h32 : p.len ≤ 32) (hi : p.fns[i]? = some fn) (hst : NameInv p.len o o' i (namedL fn.nodes 7) (namedL fn.nodes 7).length) : CallInv p from_ o0 o' (i + 1) := by
  have hil : i < p.len := by rw [← hl]; exact (List.getElem?_eq_some_iff.1 hi).1
  have call : ∀ g, g < p.len → g ∈ namedL fn.nodes 7 → CallIn p i g := by
    intro g hg hm
    obtain ⟨_, nd, hnd, h7, ha⟩ := named_mem.1 hm
    exact ⟨⟨fn, hi, nd, hnd, h7, ha⟩, hg⟩
  refine ⟨fun g hg => hst.mono g (h.mono g hg), fun g hg => ?_, fun j y hj hsj he => ?_, fun hc g hg => ?_⟩
  · rcases hst.new g hg with h1 | ⟨h1, h2, h3⟩
    · exact h.right g h1
    · exact comes_call (h.right i h1) (call g h2 h3)
  · by_cases hji : j = i
    · subst hji
      obtain ⟨⟨fn', hx', nd, hnd, h7, ha⟩, hyl⟩ := he
      rw [hi] at hx'; cases hx'
      obtain ⟨k, hk⟩ := List.mem_iff_getElem?.1 (named_mem.2 ⟨by omega, nd, hnd, h7, ha⟩ : y ∈ namedL fn.nodes 7)
      exact hst.done k y (List.getElem?_eq_some_iff.1 hk).1 hk hyl (h.mono j hsj)
    · exact hst.mono y (h.done j y (by omega) hsj he)
  · rcases hst.new g hg with h1 | ⟨h1, h2, h3⟩
    · exact h.keep hc g h1
    · exact hc i g hil (h.keep hc i h1) (call g h2 h3)
theorem CallInv.gain {p : Pg} {from_ : Nat → Prop} {o0 o : Nat → Bool} {r : Nat} (h : CallInv p from_ o0 o p.len) (hr : Shut p o0 ∨ r ≤ cnt o0 p.len) : Shut p o ∨ r + 1 ≤ cnt o p.len := by
  by_cases hc : Shut p o0
  · exact .inl fun j i hj hs he => h.mono i (hc j i hj (h.keep hc j hs) he)
  · have hr' := hr.resolve_left hc
    have hx : ∃ j i, j < p.len ∧ o0 j = true ∧ CallIn p j i ∧ o0 i = false := by
      refine Classical.byContradiction fun hno => hc fun j i hj hs he => ?_
      cases ho : o0 i
      · exact absurd ⟨j, i, hj, hs, he, ho⟩ hno
      · rfl
    obtain ⟨j, i, hj, hs, he, ho⟩ := hx
    have := cnt_lt (f := i) p.len (fun g _ hg => h.mono g hg) he.2 ho (h.done j i hj hs he)
    exact .inr (by omega)
theorem shut_end {p : Pg} {o : Nat → Bool} (h : Shut p o ∨ p.len ≤ cnt o p.len) : Shut p o := by
  rcases h with h | h
  · exact h
  · intro j i hj ho he
    cases hoi : o i
    · have := cnt_lt (P := o) (P' := fun _ => true) (f := i) p.len (fun _ _ _ => rfl) he.2 hoi rfl
      have h2 := cnt_le (fun _ => true) p.len
      omega
    · rfl
end Go.Proofs.Ytfifnahcobjjdaa

/- The document's own functions of layer 6, walked: Reach. -/
namespace Go.Proofs.Ytfifnahcobjjdaa
open Go.RowKit

/-- The flags below m, as a list of numbers. -/
def trueTo (o : Nat → Bool) (m : Nat) : List Nat := (List.range m).filter fun i => o i
theorem trueTo_succ (o : Nat → Bool) (m : Nat) : trueTo o (m + 1) = trueTo o m ++ (if o m then [m] else []) := by
  unfold trueTo
  rw [List.range_succ, List.filter_append]
  by_cases h : o m <;> simp [h]
theorem trueTo_len (o : Nat → Bool) (m : Nat) : (trueTo o m).length ≤ m := by
  have := List.length_filter_le (fun i => o i) (List.range m)
  simpa [trueTo] using this
end Go.Proofs.Ytfifnahcobjjdaa
