/- A program, as the program reads it, walked: readProgram. -/
import Derived.Test.YtdnhfpphjpnklaaPcodeP4
import Derived.Test.YtdnhfpphjpnklaaPcodeP5
import Derived.Test.YtdnhfpphjpnklaaPk5
namespace Go.Proofs.Ytdnhfpphjpnklaa
open Go.RowKit

/-- A program's numbers as they are read, one by one. -/
def stAt (bs : List Nat) (s : R.St) : Nat → R.St
  | 0 => s
  | i + 1 => (R.num bs (stAt bs s i) (cntM i)).2
def xAt (bs : List Nat) (s : R.St) (i : Nat) : Nat := (R.num bs (stAt bs s i) (cntM i)).1
def numAt (bs : List Nat) (s : R.St) (i j : Nat) : Value := .int .i64 (if j < i then ((xAt bs s j : Nat) : Int) else 0)
def pcAt (bs : List Nat) (s : R.St) (i : Nat) : List Value := numAt bs s i 0 :: numAt bs s i 1 :: numAt bs s i 2 :: .slice none 0 0 :: []
theorem pcAt_get (bs : List Nat) (s : R.St) {i : Nat} (hi : i < 3) : (pcAt bs s i)[i]? = some (.int .i64 0) := by
  have : i = 0 ∨ i = 1 ∨ i = 2 := by omega
  rcases this with rfl | rfl | rfl <;> rfl
theorem pcAt_set (bs : List Nat) (s : R.St) {i : Nat} (hi : i < 3) : (pcAt bs s i).set i (.int .i64 ((xAt bs s i : Nat) : Int)) = pcAt bs s (i + 1) := by
  have : i = 0 ∨ i = 1 ∨ i = 2 := by omega
  rcases this with rfl | rfl | rfl <;> rfl
theorem cntM_le (i : Nat) : 0 ≤ cntM i ∧ cntM i ≤ 64 := by unfold cntM; split <;> omega
theorem pcp_zero : (Try.prog.info? 26).map (·.zero) = some (some (.agg [Value.int .i64 0, .int .i64 0, .int .i64 0, .slice none 0 0].toArray)) := by kernel_rfl
theorem pcp_ones (p : Pg) : ∀ u ∈ pgC p, u.oneCell' = true := by
  intro u hu
  simp only [pgC, List.mem_cons, List.not_mem_nil, or_false] at hu
  rcases hu with h | h | h | h <;> subst h <;> rfl
theorem nodes_info : (Try.prog.info? 43).map (fun i => (i.zero, i.size, i.bytes)) = some (some (.slice none 0 0), 1, 24) := by kernel_rfl
theorem size1n : (Try.prog.info? 43).map (·.size) = some 1 := by kernel_rfl
theorem size1nn : (Try.prog.info? 24).map (·.size) = some 1 := by kernel_rfl
/-- The program's cells, once its functions have room. -/
def pcE (bs : List Nat) (s : R.St) (gf m : Nat) : List Value := .int .i64 ((xAt bs s 0 : Nat) : Int) :: .int .i64 ((xAt bs s 1 : Nat) : Int) :: .int .i64 ((xAt bs s 2 : Nat) : Int) :: .slice (some ⟨gf, 0, none⟩) m m :: []
/-- A row of nodes that was just read. -/
def GFact.fn (g gf : Nat) (h : g < gf) (l : List Nd) : GFact (fun k => k = g ∨ k = gf) :=
  ⟨fun v W => ∃ g2, gf < g2 ∧ v = .slice (some ⟨g2, 0, none⟩) l.length l.length ∧ Blk W g2 42 (ndsC l), fun _ _ _ ho ⟨g2, h1, h2, h3⟩ => ⟨g2, h1, h2, ho.blk h3 (by omega)⟩⟩
/-- A function whose nodes lie in a block of their own, behind block g0. -/
def FnAt (W : World) (g0 : Nat) (l : List Nd) (fn : Fn) : Prop := ∃ g2, g0 < g2 ∧ fn = ⟨some ⟨g2, 0, none⟩, l.length, l.length, l⟩ ∧ Blk W g2 42 (ndsC l)
theorem FnAt.keep {W W' : World} {g0 : Nat} {l : List Nd} {fn : Fn} (h : FnAt W g0 l fn) (hk : ∀ g2, g0 < g2 → g2 < W.heap.size → W'.heap[g2]? = W.heap[g2]?) : FnAt W' g0 l fn := by
  obtain ⟨g2, h1, h2, h3⟩ := h
  exact ⟨g2, h1, h2, by unfold Blk; rw [hk g2 h1 h3.lt]; exact h3⟩
/-- Functions, one for each row of nodes. -/
def FnsAt (W : World) (g0 : Nat) (L : List (List Nd)) (fs : List Fn) : Prop := fs.length = L.length ∧ ∀ (i : Nat) (l : List Nd) (fn : Fn), L[i]? = some l → fs[i]? = some fn → FnAt W g0 l fn
theorem FnsAt.keep {W W' : World} {g0 : Nat} {L : List (List Nd)} {fs : List Fn} (h : FnsAt W g0 L fs) (hk : ∀ g2, g0 < g2 → g2 < W.heap.size → W'.heap[g2]? = W.heap[g2]?) : FnsAt W' g0 L fs :=
  ⟨h.1, fun i l fn hl hf => (h.2 i l fn hl hf).keep hk⟩
theorem FnsAt.snoc {W : World} {g0 : Nat} {L : List (List Nd)} {fs : List Fn} (h : FnsAt W g0 L fs) {l : List Nd} {fn : Fn} (hf : FnAt W g0 l fn) : FnsAt W g0 (L ++ [l]) (fs ++ [fn]) := by
  refine ⟨by simp [h.1], fun i l' fn' hl hfn => ?_⟩
  rcases Nat.lt_or_ge i L.length with hlt | hge
  · rw [List.getElem?_append_left hlt] at hl
    rw [List.getElem?_append_left (by rw [h.1]; exact hlt)] at hfn
    exact h.2 i l' fn' hl hfn
  · rw [List.getElem?_append_right hge] at hl
    rw [List.getElem?_append_right (by rw [h.1]; exact hge), h.1] at hfn
    have h0 : i - L.length = 0 := by have := (List.getElem?_eq_some_iff.1 hl).1; simp at this; omega
    rw [h0] at hl hfn
    simp at hl hfn
    subst hl; subst hfn; exact hf
theorem FnsAt.nodes {W : World} {g0 : Nat} {L : List (List Nd)} {fs : List Fn} (h : FnsAt W g0 L fs) : fs.map (·.nodes) = L := by
  apply List.ext_getElem?
  intro i
  rw [List.getElem?_map]
  rcases Nat.lt_or_ge i L.length with hlt | hge
  · have hl := List.getElem?_eq_getElem hlt
    have hf := List.getElem?_eq_getElem (l := fs) (i := i) (by rw [h.1]; exact hlt)
    obtain ⟨g2, _, e, _⟩ := h.2 i _ _ hl hf
    rw [hf, hl, e]; rfl
  · rw [List.getElem?_eq_none hge, List.getElem?_eq_none (by rw [h.1]; exact hge)]; rfl
/-- What was read, as a program. -/
theorem fns_ok {W : World} {g0 B : Nat} {L : List (List Nd)} {fs : List Fn} (h : FnsAt W g0 L fs) (hB : W.heap.size ≤ B) (hL : ∀ l ∈ L, l.length ≤ 64 ∧ ∀ x ∈ l, x.Ok) : ∀ f ∈ fs, f.Ok W B := by
  intro f hf
  obtain ⟨i, hi, rfl⟩ := List.getElem_of_mem hf
  have hi' : i < L.length := by rw [← h.1]; exact hi
  have hl : L[i]? = some (L[i]'hi') := List.getElem?_eq_getElem hi'
  obtain ⟨g2, _, e, hb⟩ := h.2 i _ _ hl (List.getElem?_eq_getElem hi)
  obtain ⟨h64, hok⟩ := hL _ (List.mem_of_getElem? hl)
  rw [e]
  exact ⟨Blk.nodes hb (Nat.lt_of_lt_of_le hb.lt hB) hok rfl, Nat.le_refl _, by show (L[i]'hi').length ≤ maxLen; unfold maxLen; omega, fun h => by cases h⟩
theorem rdNds_oks (bs : List Nat) : ∀ (k : Nat) (l : List Nd) (s : R.St), (∀ x ∈ l, x.Ok) → ∀ x ∈ (C.rdNds bs k l s).1, x.Ok
  | 0, _, _, h => h
  | k + 1, l, s, h => rdNds_oks bs k _ _ fun x hx => by
    rcases List.mem_append.1 hx with h1 | h1
    · exact h x h1
    · rw [List.mem_singleton] at h1; subst h1; exact C.rdNd_ok bs s
theorem rdFns_oks (bs : List Nat) : ∀ (k : Nat) (L : List (List Nd)) (s : R.St), (∀ l ∈ L, l.length ≤ 64 ∧ ∀ x ∈ l, x.Ok) → ∀ l ∈ (C.rdFns bs k L s).1, l.length ≤ 64 ∧ ∀ x ∈ l, x.Ok
  | 0, _, _, h => h
  | k + 1, L, s, h => rdFns_oks bs k _ _ fun l hl => by
    rcases List.mem_append.1 hl with h1 | h1
    · exact h l h1
    · rw [List.mem_singleton] at h1; subst h1; exact ⟨C.rdFn_len bs s, rdNds_oks bs _ _ _ (by simp)⟩

set_option maxRecDepth 1000000 in
set_option maxHeartbeats 8000000 in
theorem pc_readProgram (g B : Nat) (A : Option Addr) (n c : Nat) (bs : List Nat) (s : R.St) (hs : R.Ok bs s) (d : C.PD) (s' : R.St) (hx : C.rdPg bs s = (d, s')) (w : World) (hk : Pd w g A n c s)
    (hr : Row byteV w B A n bs) (hb : ∀ x ∈ bs, x < 256) (hnc : n ≤ c) (hm : c ≤ maxLen) (hBg : B ≤ g) (hBw : B ≤ w.heap.size) :
    Calls Try.prog 15 #[.pointer (some ⟨g, 0, none⟩)] w fun e w' => ∃ p : Pg, e = .returned (pgA p) ∧ (∀ W, Held (fun k => w.heap.size ≤ k ∧ k < w'.heap.size) w' W → p.Ok W W.heap.size) ∧ C.dataOf p = d ∧ Q.small p = true ∧ Pd w' g A n c s' ∧ w.grownBy w' (some g) := by
  obtain ⟨m, s4, h4⟩ : ∃ m s4, C.hd4 bs s = (m, s4) := ⟨_, _, rfl⟩
  have h4' : R.num bs (stAt bs s 3) 16 = (m, s4) := h4
  have hm16 : m ≤ 16 := by have := R.num_le (bs := bs) (s := stAt bs s 3) (most := 16) (by omega); rw [h4'] at this; omega
  have HOkS : Kept (∀ i, R.Ok bs (stAt bs s i)) := kp fun i => by
    induction i with
    | zero => exact hs
    | succ i ih => exact (R.num_ok hb ih _).1
  have hok4 := (R.num_ok hb (HOkS.out 3) 16).1
  rw [h4'] at hok4
  obtain ⟨Lf, hLf⟩ : ∃ Lf, d.L = Lf := ⟨_, rfl⟩
  have HX : Kept (C.rdFns bs m [] s4 = (Lf, s')) := kp (by
    unfold C.rdPg at hx
    rw [h4] at hx
    obtain ⟨e1, e2⟩ := Prod.mk.inj hx
    rw [← hLf, ← e1, ← e2])
  have HD : Kept (d = ⟨((xAt bs s 0 : Nat) : Int), ((xAt bs s 1 : Nat) : Int), ((xAt bs s 2 : Nat) : Int), Lf⟩) := kp (by
    unfold C.rdPg at hx
    rw [← hLf, ← (Prod.mk.inj hx).1]; rfl)
  have HLf : Kept (Lf.length = m) := kp (by have := C.rdFns_len bs m [] s4; rw [HX.out] at this; simpa using this)
  have HLok : Kept (∀ l ∈ Lf, l.length ≤ 64 ∧ ∀ x ∈ l, x.Ok) := kp (by have := rdFns_oks bs m [] s4 (by simp); rw [HX.out] at this; exact this)
  have HNum : Kept (∀ (t : R.St), R.Ok bs t → ∀ (most : Int) (x : Nat) (t' : R.St), R.num bs t most = (x, t') → ∀ W, Pd W g A n c t → w.grownBy W (some g) →
      Calls Try.prog 31 #[.pointer (some ⟨g, 0, none⟩), .int .i64 most] W fun r w' => r = .returned (.int .i64 (x : Int)) ∧ Pd w' g A n c t' ∧ W.grownBy w' (some g) ∧ w.grownBy w' (some g)) := kp fun t ht most x t' hx W hW hg =>
    (pd_num g B A n c bs t ht most x t' hx W hW (hr.turned hg hBw hBg) hb hnc hm hBg (Nat.le_trans hBw hg.size)).mono fun r w' ⟨a1, a2, a3, _⟩ => ⟨a1, a2, a3, grown_trans hg a3⟩
  have HRn : Kept (∀ (t : R.St), R.Ok bs t → ∀ (l : List Nd) (t' : R.St), C.rdFn bs t = (l, t') → ∀ W, Pd W g A n c t → w.grownBy W (some g) →
      Calls Try.prog 32 #[.pointer (some ⟨g, 0, none⟩)] W fun e w' => ∃ g2, e = .returned (.slice (some ⟨g2, 0, none⟩) l.length l.length) ∧ Blk w' g2 42 (ndsC l) ∧ W.heap.size ≤ g2 ∧ Pd w' g A n c t' ∧ W.grownBy w' (some g) ∧ w.grownBy w' (some g)) := kp fun t ht l t' hx W hW hg =>
    (pc_readNodes g B A n c bs t ht l t' hx W hW (hr.turned hg hBw hBg) hb hnc hm hBg (Nat.le_trans hBw hg.size)).mono fun r w' ⟨g2, a1, a2, a3, a4, a5⟩ => ⟨g2, a1, a2, a3, a4, a5, grown_trans hg a5⟩
  have HFk : Kept (∀ (t : R.St), R.Ok bs t → R.Ok bs (C.rdFn bs t).2) := kp fun t ht => C.rdFn_keeps (P := R.Ok bs) (fun s most h => (R.num_ok hb h most).1) t ht
  have HK := kp hk; have H4 := kp h4'; have HOk4 := kp hok4
  have hgl := hk.lt
  clear hk hs h4 h4' hok4 hx hr hb hm hLf
  go_enter Try.func15, Try.ntmps15
  go_wp2_with (first
    | ((with_reducible show wpList _ _ _ (⟨some 2, _, _, _, _, _⟩ :: _) _ _); go_must (refine wpList_alloc_zero rfl 26 rfl _ pcp_zero ?_); intro gr w1 hgr hk1 hw1; have HKr1 := kp hk1; have HW1 := kp hw1; have hs1 := hw1.size; have hlr := hk1.lt; clear hk1 hw1)
    | ((with_reducible show wpList _ _ _ (⟨some 3, _, _, _, _, _⟩ :: _) _ _); go_must (refine wpList_alloc_zero rfl 26 rfl _ pcp_zero ?_); intro gp w2 hgp hk2 hw2
       have HKp2 := kp hk2; have HKr2 := kp (HKr1.out.below hw2 hlr); have HW2 := kp (HW1.out.trans (hw2.mono hs1)); have hs2 := HW2.out.size; have hlp := hk2.lt; clear hk2 hw2)
    | (go_at_call 25; go_must (refine (pc_counts2 gp w2).mono ?_); rintro e w3 ⟨A3, rfl, hrec3, hA3, hb3⟩
       have HRec3 := kp hrec3; have HA3 := kp hA3
       have HKp3 := kp (HKp2.out.below hb3 hlp); have HKr3 := kp (HKr2.out.below hb3 (by omega))
       have HW3 := kp (HW2.out.trans (hb3.mono hs2))
       have HPd3 := kp (HK.out.below HW3.out hgl)
       have HG3 := kp (grown_of_below HW3.out (some g))
       have hs3 := hb3.size
       clear hrec3 hA3 hb3))
  have hne : gp ≠ g := by omega
  have hner : gr ≠ g := by omega
  have hnerp : gr ≠ gp := by omega
  clear HW1 HW2 HKp2 HKr1 HKr2
  go_loopw [9] (fun v9 wr => ∃ i : Nat, i ≤ 3 ∧ v9 = .int .i64 i ∧ Pd wr g A n c (stAt bs s i) ∧ Blk wr gp 26 (pcAt bs s i) ∧ w.grownBy wr (some g) ∧ Held (fun k => k = gr ∨ (w2.heap.size ≤ k ∧ k < w3.heap.size)) w3 wr) (fun v9 _ => 3 - (intOf v9).toNat)
  case atStart => exact ⟨0, by omega, rfl, HPd3.out, HKp3.out, HG3.out, Held.refl _ _⟩
  case round =>
    clear HPd3 HKp3 HG3
    obtain ⟨i, hi, rfl, hpd, hblk, hgr2, hhd⟩ := hrel
    have HPd := kp hpd; have HBp := kp hblk; have HGr := kp hgr2; have HHd := kp hhd
    have hsr := hhd.size
    clear hpd hblk hgr2 hhd
    by_cases hlt : i < 3
    · obtain ⟨ad, j, rfl, hab, hxj, hc0, hc1⟩ := (HRec3.out.heldAt HHd.out fun a e => .inr (HA3.out a e)).field hlt
      have hji : j = i := by
        have : i = 0 ∨ i = 1 ∨ i = 2 := by omega
        rcases this with rfl | rfl | rfl <;> (simp at hxj; exact hxj.symm)
      subst hji
      have hc0' : wr.cell? (ad.add (j * 2)) = some (.pointer (some ⟨gp, j, none⟩)) := hc0 (by omega)
      have hc1' : wr.cell? ⟨(ad.add (j * 2)).block, (ad.add (j * 2)).off + 1, none⟩ = some (.int .i64 (cntM j)) := hc1 1 (by omega) (by omega)
      obtain ⟨t, ht⟩ : ∃ t, stAt bs s j = t := ⟨_, rfl⟩
      obtain ⟨x, t', hn⟩ : ∃ x t', R.num bs t (cntM j) = (x, t') := ⟨_, _, rfl⟩
      have HN := kp hn
      have HOk : Kept (R.Ok bs t) := kp (by rw [← ht]; exact HOkS.out j)
      have HTn : Kept (stAt bs s (j + 1) = t') := kp (by show (R.num bs (stAt bs s j) (cntM j)).2 = t'; rw [ht, hn])
      have HSet : Kept ((pcAt bs s j).set j (.int .i64 (x : Int)) = pcAt bs s (j + 1)) := kp (by
        have h := pcAt_set bs s hlt
        have hxx : xAt bs s j = x := by unfold xAt; rw [ht, hn]
        rw [hxx] at h
        exact h)
      have HCi := kp (pcAt_get bs s hlt)
      rw [ht] at HPd
      obtain ⟨pa, hpa0⟩ : ∃ pa : Addr, (⟨gp, j, none⟩ : Addr) = pa := ⟨_, rfl⟩
      have hpa := hpa0
      rw [hpa0] at hc0'
      obtain ⟨mj, hmj⟩ : ∃ mj, cntM j = mj := ⟨_, rfl⟩
      rw [hmj] at hc1' HN
      clear hxj hc0 hc1 hn hpa0 ht
      have HPa := kp hpa
      have HMj := kp hmj
      clear hpa hmj
      go_wp2_with (first
        | ((with_reducible show wpList _ _ _ (⟨some 5, _, _, _, _, _⟩ :: _) _ _); go_must (refine wpList_alloc_zero rfl 67 rfl _ cnt_zero ?_); intro g5 w6 hg5 hk6 hw6; have HK6 := kp hk6; have HW6 := kp hw6; clear hk6 hw6)
        | ((with_reducible show wpList _ _ _ (⟨none, _, _, _, _, _⟩ :: _) _ _); go_must (refine wpList_store_blk rfl 67 (.tmp 5) (.tmp 12) rfl g5 [.pointer (some pa), .int .i64 mj] rfl rfl _ _ HK6.out cnt_size rfl (cnt_ones _ _) ?_); intro w7 hk7 hg7' hz7
           have HK7 := kp hk7
           have hbw7 : Below wr.heap.size wr w7 := HW6.out.grown hg7' HW6.out.size (by intro k e; cases e; exact hg5)
           have HPd7 := kp (HPd.out.below hbw7 HPd.out.lt)
           have HBp7 := kp (HBp.out.below hbw7 HBp.out.lt)
           have HG7 := kp (grown_below HGr.out hbw7)
           have HH7 : Kept (Held (fun k => k = gr ∨ (w2.heap.size ≤ k ∧ k < w3.heap.size)) w3 w7) := kp (HHd.out.trans (Held.of_below hbw7 fun k h => by omega))
           have hs7 := hbw7.size
           have hl7 := hk7.lt
           clear hk7 hg7' hz7 hbw7))
      have HN5 : Kept (¬ (g5 = g ∨ g5 = gp)) := kp (by omega)
      have HGO : Kept (∀ W, Only (fun k => k = g ∨ k = gp) w7 W → w.grownBy W (some g)) := kp fun W hO => ⟨hO.os.trans HG7.out.os, hO.tape.trans HG7.out.tape, hO.output.trans HG7.out.output, Nat.le_trans HG7.out.size hO.size, fun k hk hne => (hO.block k (Nat.lt_of_lt_of_le hk HG7.out.size) (by rintro (rfl | rfl); exact hne rfl; omega)).trans (HG7.out.block k hk hne)⟩
      apply region_acts (fun k => k = g ∨ k = gp) [5, 7] (phs ([fun W => Pd W g A n c t ∧ Blk W gp 26 (pcAt bs s j), fun W => Pd W g A n c t' ∧ Blk W gp 26 (pcAt bs s j), fun W => Pd W g A n c t' ∧ Blk W gp 26 (pcAt bs s (j + 1))])) (.is _ :: .is _ :: .is _ :: .is _ :: .is _ :: .is _ :: .is _ :: .any _ :: [])
        [[], [(0, 13)], [], [], [(3, 16)], [(2, 15), (4, 17)], [(1, 14)], [(6, 19), (5, 18)]]
        [(0, 13), (1, 14), (2, 15), (3, 16), (4, 17), (5, 18), (6, 19)] (by kernel_rfl) (by kernel_rfl) (by kernel_rfl) (by decide)
      case h0 => exact ⟨HPd7.out, HBp7.out⟩
      case hob =>
        refine gobs_calm rfl ?o0 (gobs_calm rfl ?o1 (gobs_calm rfl ?o2 (gobs_calm rfl ?o3 (gobs_calm rfl ?o4 (gobs_act 0 rfl rfl ?o5 (gobs_calm rfl ?o6 (gobs_act 1 rfl rfl ?o7 (gobs_nil))))))))
        case o0 => intro p W hO hJ; change wpList _ _ _ _ _ _; go_wp2; exact calm_post rfl rfl rfl hJ
        case o1 =>
          intro p W hO hJ; rintro _ rfl; change wpList _ _ _ _ _ _
          have hq := (hO.blk HK7.out HN5.out).cell 0
          go_wp2; exact calm_post rfl rfl rfl hJ
        case o2 => intro p W hO hJ; change wpList _ _ _ _ _ _; go_wp2; exact calm_post rfl rfl rfl hJ
        case o3 => intro p W hO hJ; change wpList _ _ _ _ _ _; go_wp2; exact calm_post rfl rfl rfl hJ
        case o4 =>
          intro p W hO hJ; rintro _ rfl; change wpList _ _ _ _ _ _
          have hq := (hO.blk HK7.out HN5.out).cell 1
          go_wp2; exact calm_post rfl rfl rfl hJ
        case o5 =>
          intro W hO hJ; rintro _ rfl; rintro _ rfl; change wpList _ _ _ _ _ _
          obtain ⟨hj1, hj2⟩ : Pd W g A n c t ∧ Blk W gp 26 (pcAt bs s j) := hJ
          have HJ1 := kp hj1; have HJ2 := kp hj2
          have HGW := kp (HGO.out W hO)
          have hzW := hO.size
          clear hj1 hj2 hO
          go_wp2_with fail
          refine (HNum.out t HOk.out mj x t' HN.out W HJ1.out HGW.out).mono ?_
          rintro e w2 ⟨rfl, hk2, hg2, _⟩
          have HK2 := kp hk2; have HG2 := kp hg2
          clear hk2 hg2
          go_wp2
          exact act_post rfl rfl rfl (Only.of_grown HG2.out (.inl rfl)) ⟨HK2.out, Blk.grown HJ2.out HG2.out (by intro e; cases e; exact hne rfl)⟩ rfl
        case o6 => intro p W hO hJ; rintro _ rfl; change wpList _ _ _ _ _ _; go_wp2; exact calm_post rfl rfl rfl hJ
        case o7 =>
          intro W hO hJ; rintro _ rfl; rintro _ rfl; change wpList _ _ _ _ _ _
          obtain ⟨hj1, hj2⟩ : Pd W g A n c t' ∧ Blk W gp 26 (pcAt bs s j) := hJ
          have hc : W.cell? ⟨gp, j, none⟩ = some (.int .i64 0) := (hj2.cell j).trans HCi.out
          have hf := hj2.frozen j
          have HJ1 : Kept (Pd (W.setCell ⟨gp, j, none⟩ (.int .i64 (x : Int))) g A n c t') := kp (Blk.other hj1 _ _ (fun e => hne e.symm))
          have HJ2 := kp (hj2.set j (.int .i64 (x : Int)))
          clear hj1 hj2
          have hpa := HPa.out
          rw [hpa] at hc hf HJ1
          go_wp2
          exact act_post0 rfl (by rw [← hpa]; exact Only.set (.inr rfl)) ⟨HJ1.out, by rw [← HSet.out, ← hpa]; exact HJ2.out⟩
      case hend =>
        intro W hO hJ; rintro _ rfl; rintro _ rfl; rintro _ rfl; rintro _ rfl; rintro _ rfl; rintro _ rfl; rintro _ rfl
        simp only [ggiven, put_lit, List.set]
        obtain ⟨hj1, hj2⟩ : Pd W g A n c t' ∧ Blk W gp 26 (pcAt bs s (j + 1)) := hJ
        have HJ1 := kp hj1; have HJ2 := kp hj2; have HGW := kp (HGO.out W hO)
        have HHW : Kept (Held (fun k => k = gr ∨ (w2.heap.size ≤ k ∧ k < w3.heap.size)) w3 W) := kp (HH7.out.trans ⟨hO.os, hO.tape, hO.output, hO.size, fun k h => hO.block k (by omega) (by omega)⟩)
        clear hj1 hj2 hO
        go_wp2
        go_roundw
        case rel => exact ⟨j + 1, by omega, by go_num, by rw [HTn.out]; exact HJ1.out, HJ2.out, HGW.out, HHW.out⟩
        case measure => simp [intOf]; omega
    · have hi3 : i = 3 := by omega
      subst hi3
      obtain ⟨s3, hs3e⟩ : ∃ s3, stAt bs s 3 = s3 := ⟨_, rfl⟩
      have HOk3 : Kept (R.Ok bs s3) := kp (by rw [← hs3e]; exact HOkS.out 3)
      rw [hs3e] at HPd H4
      have HKr := kp (HKr3.out.held HHd.out (.inl rfl))
      have hlgr := HKr.out.lt
      clear hs3e hlt HHd
      go_wp2_with (first
        | (go_at_call 31; go_must (refine (HNum.out s3 HOk3.out 16 m s4 H4.out wr HPd.out HGr.out).mono ?_); rintro e w4 ⟨rfl, hk4, hg4, hgw4⟩
           have HPd4 := kp hk4; have HG4 := kp hgw4; have HBp4 := kp (HBp.out.grown hg4 (by intro e; cases e; exact hne rfl)); have HKr4 := kp (HKr.out.grown hg4 (by intro e; cases e; exact hner rfl))
           have hs4 := hgw4.size
           clear hk4 hg4 hgw4)
        | ((with_reducible show wpList _ _ _ (⟨some 23, _, _, _, _, _⟩ :: _) _ _); go_must (refine wpList_make_blk rfl 24 (.tmp 22) (.tmp 22) rfl 43 (.slice none 0 0) 24 Try.underlying24 nodes_info rfl .i64 .i64 m m rfl rfl (Nat.le_refl _) (by omega) (by omega) ?_); intro gf w5 hgf hk5 hw5
           have HKf5 := kp hk5; have HPd5 := kp (HPd4.out.below hw5 HPd4.out.lt); have HBp5 := kp (HBp4.out.below hw5 HBp4.out.lt); have HKr5 := kp (HKr4.out.below hw5 HKr4.out.lt); have HG5 := kp (grown_below HG4.out hw5)
           have hggf : g < gf := by omega
           have hpf : gp < gf := Nat.lt_of_lt_of_le HBp4.out.lt hgf
           have hrf : gr < gf := Nat.lt_of_lt_of_le HKr4.out.lt hgf
           clear hk5 hw5)
        | ((with_reducible show wpList _ _ _ (⟨none, _, _, _, _, _⟩ :: _) _ _); go_must (refine wpList_store_cell rfl 24 (.tmp 24) (.tmp 23) rfl gp 3 (.slice (some ⟨gf, 0, none⟩) m m) rfl rfl rfl rfl 26 _ HBp5.out (by show 3 < 4; decide) size1nn ?_); intro w6 hk6 hg6 hz6
           have HBp6 : Kept (Blk w6 gp 26 (pcE bs s gf m)) := kp hk6
           have hc3 : w6.cell? ⟨gp, 3, none⟩ = some (.slice (some ⟨gf, 0, none⟩) m m) := HBp6.out.cell 3
           have HPd6 := kp (HPd5.out.grown hg6 (by intro e; cases e; exact hne rfl))
           have HKr6 := kp (HKr5.out.grown hg6 (by intro e; cases e; exact hnerp rfl))
           have HKf6 := kp (HKf5.out.grown hg6 (by intro e; cases e; omega))
           have HG6 := kp (grown_new HG5.out hg6 (by omega))
           clear hk6 hg6))
      clear hc3
      go_loopw [28] (fun v28 wr => ∃ (f : Nat) (L : List (List Nd)) (t : R.St) (fs : List Fn), f ≤ m ∧ v28 = .int .i64 f ∧ L.length = f ∧ C.rdFns bs (m - f) L t = (Lf, s') ∧ R.Ok bs t ∧ Pd wr g A n c t ∧ Blk wr gf 43 (fs.map fnV ++ List.replicate (m - f) (.slice none 0 0)) ∧ FnsAt wr gf L fs ∧ w.grownBy wr (some g) ∧ Blk wr gp 26 (pcE bs s gf m) ∧ Blk wr gr 26 [Value.int .i64 0, .int .i64 0, .int .i64 0, .slice none 0 0]) (fun v28 _ => m - (intOf v28).toNat)
      case atStart => exact ⟨0, [], s4, [], by omega, rfl, rfl, HX.out, HOk4.out, HPd6.out, HKf6.out, ⟨rfl, fun i l fn h => by simp at h⟩, HG6.out, HBp6.out, HKr6.out⟩
      case round =>
        clear HPd HBp HGr HKr HPd4 HG4 HBp4 HKr4 HKf5 HPd5 HBp5 HKr5 HG5 HBp6 HPd6 HKr6 HKf6 HG6 hsr hlgr
        obtain ⟨f, L, t, fs, hf, rfl, hll, hrd, hok, hpd, hcur, hfns, hgr2, hbp, hkr⟩ := hrel
        have HLl := kp hll; have HRd := kp hrd; have HOk := kp hok; have HPd := kp hpd; have HCur := kp hcur; have HFs := kp hfns; have HGr := kp hgr2; have HBp := kp hbp; have HKr := kp hkr
        have hsr := hgr2.size
        have hlf := hcur.lt
        clear hll hrd hok hpd hcur hfns hgr2 hbp hkr
        by_cases hlt : f < m
        · obtain ⟨lf, t', hfn⟩ : ∃ lf t', C.rdFn bs t = (lf, t') := ⟨_, _, rfl⟩
          have HFn := kp hfn
          have HOkn : Kept (R.Ok bs t') := kp (by have := HFk.out t HOk.out; rw [hfn] at this; exact this)
          have HNext : Kept (C.rdFns bs (m - (f + 1)) (L ++ [lf]) t' = (Lf, s')) := kp (by
            have h := HRd.out
            rw [show m - f = (m - (f + 1)) + 1 by omega] at h
            unfold C.rdFns at h
            rw [hfn] at h
            exact h)
          have hfsl : fs.length = f := by rw [HFs.out.1, HLl.out]
          obtain ⟨cur, hcur⟩ : ∃ cur, fs.map fnV ++ List.replicate (m - f) (Value.slice none 0 0) = cur := ⟨_, rfl⟩
          have HCf : Kept (cur[f]? = some (.slice none 0 0)) := kp (by
            rw [← hcur, List.getElem?_append_right (by rw [List.length_map]; omega), List.length_map, hfsl, Nat.sub_self, rep_on _ hlt]; rfl)
          have HSetf : Kept (∀ v : Value, cur.set f v = fs.map fnV ++ v :: List.replicate (m - (f + 1)) (.slice none 0 0)) := kp fun v => by
            rw [← hcur, List.set_append_right _ _ (by rw [List.length_map]; omega), List.length_map, hfsl, Nat.sub_self, rep_on _ hlt]; rfl
          rw [hcur] at HCur
          have HNgp : Kept (¬ (gp = g ∨ gp = gf)) := kp (by omega)
          have HGO : Kept (∀ W, Only (fun k => k = g ∨ k = gf) wr W → w.grownBy W (some g)) := kp fun W hO => ⟨hO.os.trans HGr.out.os, hO.tape.trans HGr.out.tape, hO.output.trans HGr.out.output, Nat.le_trans HGr.out.size hO.size, fun k hk hne => (hO.block k (Nat.lt_of_lt_of_le hk HGr.out.size) (by rintro (rfl | rfl); exact hne rfl; omega)).trans (HGr.out.block k hk hne)⟩
          clear hfn hcur HRd
          go_wp2
          apply region_acts (fun k => k = g ∨ k = gf) [4, 6] (phs ([fun W => Pd W g A n c t ∧ Blk W gf 43 cur, fun W => Pd W g A n c t' ∧ Blk W gf 43 cur, fun W => Pd W g A n c t' ∧ ∃ g2, gf < g2 ∧ Blk W gf 43 (cur.set f (.slice (some ⟨g2, 0, none⟩) lf.length lf.length)) ∧ Blk W g2 42 (ndsC lf)])) (.is _ :: .is _ :: .is _ :: .is _ :: (GFact.fn g gf hggf lf) :: .is _ :: .any _ :: [])
            [[], [(0, 31)], [], [], [(3, 34)], [(1, 32), (2, 33)], [(5, 36), (4, 35)]]
            [(0, 31), (1, 32), (2, 33), (3, 34), (4, 35), (5, 36)] (by kernel_rfl) (by kernel_rfl) (by kernel_rfl) (by decide)
          case h0 => exact ⟨HPd.out, HCur.out⟩
          case hob =>
            refine gobs_calm rfl ?o0 (gobs_calm rfl ?o1 (gobs_calm rfl ?o2 (gobs_calm rfl ?o3 (gobs_act 0 rfl rfl ?o4 (gobs_calm rfl ?o5 (gobs_act 1 rfl rfl ?o6 (gobs_nil)))))))
            case o0 => intro p W hO hJ; change wpList _ _ _ _ _ _; go_wp2; exact calm_post rfl rfl rfl hJ
            case o1 =>
              intro p W hO hJ; rintro _ rfl; change wpList _ _ _ _ _ _
              have hq : W.cell? ⟨gp, 3, none⟩ = some (.slice (some ⟨gf, 0, none⟩) m m) := (hO.blk HBp.out HNgp.out).cell 3
              go_wp2; exact calm_post rfl rfl rfl hJ
            case o2 => intro p W hO hJ; change wpList _ _ _ _ _ _; go_wp2; exact calm_post rfl rfl rfl hJ
            case o3 => intro p W hO hJ; change wpList _ _ _ _ _ _; go_wp2; exact calm_post rfl rfl rfl hJ
            case o4 =>
              intro W hO hJ; rintro _ rfl; change wpList _ _ _ _ _ _
              obtain ⟨hj1, hj2⟩ : Pd W g A n c t ∧ Blk W gf 43 cur := hJ
              have HJ1 := kp hj1; have HJ2 := kp hj2
              have HGW := kp (HGO.out W hO)
              have hzW := hO.size
              clear hj1 hj2 hO
              go_wp2_with fail
              refine (HRn.out t HOk.out lf t' HFn.out W HJ1.out HGW.out).mono ?_
              rintro e w2 ⟨g2, rfl, hb2, hg2a, hk2, hg2, _⟩
              have HK2 := kp hk2; have HG2 := kp hg2; have HB2 := kp hb2
              clear hk2 hg2 hb2
              go_wp2
              exact act_post rfl rfl rfl (Only.of_grown HG2.out (.inl rfl)) ⟨HK2.out, Blk.grown HJ2.out HG2.out (by intro e; cases e; omega)⟩ ⟨g2, by omega, rfl, HB2.out⟩
            case o5 => intro p W hO hJ; rintro _ rfl; rintro _ rfl; change wpList _ _ _ _ _ _; go_wp2; exact calm_post rfl rfl rfl hJ
            case o6 =>
              intro W hO hJ; rintro _ rfl; intro v4 hv4; change wpList _ _ _ _ _ _
              obtain ⟨hj1, hj2⟩ : Pd W g A n c t' ∧ Blk W gf 43 cur := hJ
              obtain ⟨g2, hg2a, rfl, hb2⟩ := hv4
              have hc : W.cell? ⟨gf, f, none⟩ = some (.slice none 0 0) := (hj2.cell f).trans HCf.out
              have hf := hj2.frozen f
              have HJ1 : Kept (Pd (W.setCell ⟨gf, f, none⟩ (.slice (some ⟨g2, 0, none⟩) lf.length lf.length)) g A n c t') := kp (Blk.other hj1 _ _ (by show g ≠ gf; omega))
              have HJ2 := kp (hj2.set f (.slice (some ⟨g2, 0, none⟩) lf.length lf.length))
              have HB2 : Kept (Blk (W.setCell ⟨gf, f, none⟩ (.slice (some ⟨g2, 0, none⟩) lf.length lf.length)) g2 42 (ndsC lf)) := kp (Blk.other hb2 _ _ (by show g2 ≠ gf; omega))
              clear hj1 hj2 hb2
              go_wp2
              exact act_post0 rfl (Only.set (.inr rfl)) ⟨HJ1.out, g2, hg2a, HJ2.out, HB2.out⟩
          case hend =>
            intro W hO hJ; rintro _ rfl; rintro _ rfl; rintro _ rfl; rintro _ rfl; intro v4 hv4; rintro _ rfl
            simp only [ggiven, put_lit, List.set]
            obtain ⟨hj1, g2, hg2a, hj2, hb2⟩ : Pd W g A n c t' ∧ ∃ g2, gf < g2 ∧ Blk W gf 43 (cur.set f (.slice (some ⟨g2, 0, none⟩) lf.length lf.length)) ∧ Blk W g2 42 (ndsC lf) := hJ
            rw [HSetf.out] at hj2
            have HJ1 := kp hj1; have HJ2 := kp hj2; have HGW := kp (HGO.out W hO)
            have HBpW := kp (hO.blk HBp.out HNgp.out)
            have HKrW := kp (hO.blk HKr.out (by omega))
            have HFsW : Kept (FnsAt W gf (L ++ [lf]) (fs ++ [⟨some ⟨g2, 0, none⟩, lf.length, lf.length, lf⟩])) := kp ((HFs.out.keep fun g3 h1 h2 => hO.block g3 h2 (by omega)).snoc ⟨g2, hg2a, rfl, hb2⟩)
            clear hj1 hj2 hO hb2 hv4
            go_wp2
            go_roundw
            case rel => exact ⟨f + 1, L ++ [lf], t', fs ++ [⟨some ⟨g2, 0, none⟩, lf.length, lf.length, lf⟩], by omega, by go_num, by rw [List.length_append, HLl.out]; rfl, HNext.out, HOkn.out, HJ1.out, by rw [List.map_append, List.append_assoc]; exact HJ2.out, HFsW.out, HGW.out, HBpW.out, HKrW.out⟩
            case measure => simp [intOf]; omega
        · have hmf : m - f = 0 := by omega
          have hE : L = Lf ∧ t = s' := by
            have h := HRd.out
            rw [hmf] at h
            exact ⟨(Prod.mk.inj h).1, (Prod.mk.inj h).2⟩
          have HE := kp hE
          have HCe : Kept (Blk wr gf 43 (fs.map fnV)) := kp (by have h := HCur.out; rw [hmf, List.replicate_zero, List.append_nil] at h; exact h)
          have hfsm : fs.length = m := by rw [HFs.out.1, HLl.out]; omega
          have HFm := kp hfsm
          clear hlt hE hfsm
          go_wp2_with (first
            | ((with_reducible show wpList _ _ _ (⟨some 38, _, _, _, _, _⟩ :: _) _ _); go_must (refine wpList_load_blk rfl 26 (.tmp 3) rfl gp rfl _ (pcE bs s gf m) _ HBp.out Try.underlying26 rfl pg_size ?_))
            | ((with_reducible show wpList _ _ _ (⟨none, _, _, _, _, _⟩ :: _) _ _); go_must (refine wpList_store_blk rfl 26 (.tmp 2) (.tmp 38) rfl gr (pcE bs s gf m) rfl rfl _ _ HKr.out pg_size rfl (pcp_ones ⟨((xAt bs s 0 : Nat) : Int), ((xAt bs s 1 : Nat) : Int), ((xAt bs s 2 : Nat) : Int), some ⟨gf, 0, none⟩, m, m, fs⟩) ?_); intro w9 hk9 hg9 hz9; have HK9 := kp hk9; have HG9 := kp hg9; clear hk9 hg9))
          refine bodyPost_ret (results_blk (P := Try.prog) (fn := Try.f15) rfl _ _ gr 26 _ _ rfl HK9.out Try.underlying26 rfl pg_size) rfl ⟨⟨((xAt bs s 0 : Nat) : Int), ((xAt bs s 1 : Nat) : Int), ((xAt bs s 2 : Nat) : Int), some ⟨gf, 0, none⟩, m, m, fs⟩, rfl, ?_, ?_, ?_, ?_, ?_⟩
          · intro W hW
            have hl9 := HG9.out.size
            have hc9 := HCe.out.grown HG9.out (by intro e; cases e; omega)
            have hcf := hc9.held hW ⟨by omega, hc9.lt⟩
            have hfw : FnsAt W gf Lf fs := by
              rw [← HE.out.1]
              refine (HFs.out.keep (W' := w9) fun g3 h1 h2 => HG9.out.block g3 h2 (by intro e; cases e; omega)).keep fun g3 h1 h2 => hW.block g3 ⟨by omega, h2⟩
            exact ⟨C.num_i64 _ (cntM_le 0).1 (cntM_le 0).2, C.num_i64 _ (cntM_le 1).1 (cntM_le 1).2, C.num_i64 _ (cntM_le 2).1 (cntM_le 2).2, hcf.row HFm.out (Nat.le_refl _), fns_ok hfw (Nat.le_refl _) HLok.out, Nat.le_refl _, by show m ≤ maxLen; unfold maxLen; omega, fun h => by cases h⟩
          · rw [HD.out]
            unfold C.dataOf
            rw [← HE.out.1, HFs.out.nodes]
          · have hn := HFs.out.nodes
            unfold Q.small
            rw [Bool.and_eq_true]
            refine ⟨decide_eq_true (by show fs.length ≤ 40; rw [HFm.out]; omega), List.all_eq_true.2 fun fn hfn => decide_eq_true ?_⟩
            have h1 : fn.nodes ∈ Lf := by rw [← HE.out.1, ← hn]; exact List.mem_map.2 ⟨fn, hfn, rfl⟩
            have := (HLok.out _ h1).1
            omega
          · rw [← HE.out.2]; exact HPd.out.grown HG9.out (by intro e; cases e; omega)
          · exact grown_new HGr.out HG9.out (by omega)
end Go.Proofs.Ytdnhfpphjpnklaa
