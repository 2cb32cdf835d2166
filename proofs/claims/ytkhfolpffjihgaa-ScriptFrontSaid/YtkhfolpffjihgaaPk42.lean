/- ScriptLaw2, ScriptFr1, in one text. -/
import Derived.Test.YtkhfolpffjihgaaScriptP7
import Derived.Test.YtkhfolpffjihgaaScriptP8
import Derived.Test.YtkhfolpffjihgaaPk27
import Derived.Test.YtkhfolpffjihgaaPk26
namespace Go.Proofs.Ytkhfolpffjihgaa
open Go.RowKit
theorem tvs_8 {p : Pg} {q : Pc} {c : M.Cf} (hg : M.Good p c) (h : q.cf = c) : ∀ x ∈ q.tvs, x.slots.length = 8 := fun x hx => by
  subst h
  exact hg.eight (tvT x) (List.mem_map_of_mem hx)
section
variable {α : Type} {sz : Nat} {f : α → Nat → Value} {w w' : World} {B : Nat} {e : TypeId} {v v' : Value} {l : List α}
theorem OwnR.rowBlk11 (h : OwnR sz f w B e v l) {b : Nat} (hb : v.ownBlock = some b) : ∃ cs, Blk w b e cs := by
  rcases h.2 with ⟨rfl, _⟩ | ⟨g, cap, cur, rfl, _, hg, _⟩
  · cases hb
  · have e1 : g = b := by have h2 : some g = some b := hb; injection h2
    subst e1
    exact ⟨cur.toList, by unfold Blk; simpa using hg⟩
theorem vD (ho : OwnR sz f w B e v l) (hg : Grew w w' v v') {g : Nat} {t : TypeId} {cs : List Value} (hk : Blk w g t cs) (hne : t ≠ e) : Blk w' g t cs :=
  hk.grown hg.1 (fun e1 => by
    obtain ⟨cs2, h2⟩ := ho.rowBlk11 e1.symm
    exact hk.twoNe h2 hne rfl)
theorem grew_mine (ho : OwnR sz f w B e v l) (hg : Grew w w' v v') {B' : Nat} {q : Pc} (hm : Mine w B' q) (h1 : 89 ≠ e) (h2 : 90 ≠ e) : Mine w' B' q := by
  cases hv : v.ownBlock with
  | none =>
    have hg' := hg.1
    rw [hv] at hg'
    exact hm.below ⟨hg'.os, hg'.tape, hg'.output, hg'.size, fun k hk => hg'.block k hk (by simp)⟩ (Nat.le_refl _)
  | some b =>
    have hg' := hg.1
    rw [hv] at hg'
    obtain ⟨cs2, hb⟩ := ho.rowBlk11 hv
    exact hm.far hg' (fun b2 h3 e1 => hm.row.typed hb h1 (by rw [h3, e1])) (fun k y b2 hy h3 e1 => (hm.fam.own k y hy).typed hb h2 (by rw [h3, e1]))
theorem grew_below (ho : OwnR sz f w B e v l) (hg : Grew w w' v v') {w0 : World} (hb : Below B w0 w) (hB : B ≤ w.heap.size) : Below B w0 w' := hb.grown hg.1 hB fun k hk => (ho.block k hk).1
end
theorem runTo_snoc (p : Pg) (z : List (Int × Bool)) (x : Int × Bool) : runTo p (z ++ [x]) (z ++ [x]).length = M.step p (runTo p z z.length) x.1 x.2 := by
  unfold runTo
  rw [List.take_of_length_le (Nat.le_refl _), List.take_of_length_le (Nat.le_refl _), List.foldl_append]
  rfl
theorem runTo_app (p : Pg) (z z2 : List (Int × Bool)) {k : Nat} (hk : k ≤ z.length) : runTo p (z ++ z2) k = runTo p z k := by
  unfold runTo
  rw [List.take_append_of_le_length hk]
set_option maxRecDepth 1000000 in
set_option maxHeartbeats 8000000 in
theorem sc_front1 (i n c : Nat) (A : Option Addr) (hn : n ≤ 2000) (g10 gl gC : Nat) (b : Bool) (q r : Pc) (w : World) (hb : Blk w g10 4 [.bool b]) (hl : Blk w gl 22 [.slice A n c]) (hk : Blk w gC 43 (pcC q)) (hq : q.Ok w w.heap.size) (hr : r.Ok w w.heap.size)
    (hq8 : ∀ x ∈ q.tvs, x.slots.length = 8) (hr8 : ∀ x ∈ r.tvs, x.slots.length = 8) (hq16 : q.ow.length = 16) (hr16 : r.ow.length = 16) (s : Bool) (hs : s = true ↔ q.cf = r.cf) :
    Calls Try.prog 23 #[.int .i64 (i : Int), pcA r, .pointer (some ⟨g10, 0, none⟩), .pointer (some ⟨gl, 0, none⟩), .pointer (some ⟨gC, 0, none⟩)] w fun e w' => e = .returned (.bool true) ∧ w.grownBy w' (some g10) ∧ Blk w' g10 4 [.bool (b || (decide (i = n) && s))] := by
  have HBl := kp hb; have HL := kp hl; have HK := kp hk; have HQ := kp hq; have HR := kp hr; have HQ8 := kp hq8; have HR8 := kp hr8; have HQ16 := kp hq16; have HR16 := kp hr16; have HS := kp hs; have HQ17 := kp (jG hq16); have HR17 := kp (jG hr16)
  have hlb := hb.lt; have hll := hl.lt; have hlk := hk.lt
  clear hb hl hk hq hr hq8 hr8 hq16 hr16 hs
  rw [show pcA r = .agg (pcC r).toArray from rfl]
  cases b with
  | true =>
    go_enter Try.func23, Try.ntmps23
    go_wp2_with (first
      | ((with_reducible refine j2 rfl 43 (.tmp 1) rfl (pcC r) rfl ?_); intro g6 w1 hg6 hk1 hb1; have HKr := kp hk1; have HB1 := kp hb1; have HKb1 := kp (HBl.out.below hb1 hlb); have hcb : w1.cell? ⟨g10, 0, none⟩ = some (.bool true) := (HBl.out.below hb1 hlb).cell 0; clear hk1 hb1 hg6)
      | ((with_reducible show Sn); (refine j7 rfl 4 (.tmp 2) (.tmp 19) rfl g10 0 (.bool true) rfl rfl rfl rfl _ _ HKb1.out (by show 0 < 1; decide) xA ?_); intro w2 hk2 hg2 hz2; have HKb2 : Kept (Blk w2 g10 4 [.bool true]) := kp hk2; have HG2 := kp (l2 (jM HB1.out _) hg2); clear hk2 hg2 hz2 hcb))
    go_ret
    exact ⟨rfl, HG2.out, HKb2.out⟩
  | false =>
    by_cases hin : i = n
    case neg =>
      have hbi : ((i : Int) == (n : Int)) = false := by rw [beq_eq_false_iff_ne]; omega
      have HV : Kept ((false || (decide (i = n) && s)) = false) := kp (by rw [decide_eq_false hin]; rfl)
      rw [HV.out]
      clear hin
      go_enter Try.func23, Try.ntmps23
      go_wp2_with (first
        | ((with_reducible refine j2 rfl 43 (.tmp 1) rfl (pcC r) rfl ?_); intro g6 w1 hg6 hk1 hb1; have HKr := kp hk1; have HB1 := kp hb1; have HKb1 := kp (HBl.out.below hb1 hlb); have hcb : w1.cell? ⟨g10, 0, none⟩ = some (.bool false) := (HBl.out.below hb1 hlb).cell 0; have hcl : w1.cell? ⟨gl, 0, none⟩ = some (.slice A n c) := (HL.out.below hb1 hll).cell 0; clear hk1 hb1 hg6)
        | ((with_reducible show Sn); (refine j7 rfl 4 (.tmp 2) (.tmp 19) rfl g10 0 (.bool false) rfl rfl rfl rfl _ _ HKb1.out (by show 0 < 1; decide) xA ?_); intro w2 hk2 hg2 hz2; have HKb2 : Kept (Blk w2 g10 4 [.bool false]) := kp hk2; have HG2 := kp (l2 (jM HB1.out _) hg2); clear hk2 hg2 hz2 hcb hcl))
      go_ret
      exact ⟨rfl, HG2.out, HKb2.out⟩
    case pos =>
      subst hin
      have HV : Kept ((false || (decide (i = i) && s)) = s) := kp (by simp)
      rw [HV.out]
      have hbi : ((i : Int) == (i : Int)) = true := by rw [beq_iff_eq]
      go_enter Try.func23, Try.ntmps23
      go_wp2_with (first
        | ((with_reducible refine j2 rfl 43 (.tmp 1) rfl (pcC r) rfl ?_); intro g6 w1 hg6 hk1 hb1; have HKr := kp hk1; have HB1 := kp hb1; have HKb1 := kp (HBl.out.below hb1 hlb); have HKc1 := kp (HK.out.below hb1 hlk); have hcb : w1.cell? ⟨g10, 0, none⟩ = some (.bool false) := (HBl.out.below hb1 hlb).cell 0; have hcl : w1.cell? ⟨gl, 0, none⟩ = some (.slice A i c) := (HL.out.below hb1 hll).cell 0; have hs1 := hb1.size; clear hk1 hb1 hg6)
        | ((with_reducible show Sl 15); go_must (refine l3 rfl 43 (.tmp 4) rfl gC rfl _ (pcC q) _ HKc1.out Try.underlying43 rfl (by rw [HQ17.out]; exact j6) ?_))
        | ((with_reducible show Sl 16); go_must (refine l3 rfl 43 (.tmp 6) rfl g6 rfl _ (pcC r) _ HKr.out Try.underlying43 rfl (by rw [HR17.out]; exact j6) ?_))
        | (go_at_call 24; fail))
      refine (sem_same w1.heap.size q r w1 ((HQ.out.below HB1.out).more hs1) ((HR.out.below HB1.out).more hs1) (Nat.le_refl _) HQ8.out HR8.out HQ16.out HR16.out s HS.out).mono ?_
      rintro e w3 ⟨rfl, hb3⟩
      have HB3 := kp (HB1.out.trans (hb3.mono hs1)); have HKb3 := kp (HBl.out.below HB3.out hlb)
      clear hb3 hcb hcl
      go_wp2_with (first
        | ((with_reducible show Sn); (refine j7 rfl 4 (.tmp 2) (.tmp 19) rfl g10 0 (.bool s) rfl rfl rfl rfl _ _ HKb3.out (by show 0 < 1; decide) xA ?_); intro w4 hk4 hg4 hz4; have HKb4 : Kept (Blk w4 g10 4 [.bool s]) := kp hk4; have HG4 := kp (l2 (jM HB3.out _) hg4); clear hk4 hg4 hz4))
      go_ret
      exact ⟨rfl, HG4.out, HKb4.out⟩
end Go.Proofs.Ytkhfolpffjihgaa
