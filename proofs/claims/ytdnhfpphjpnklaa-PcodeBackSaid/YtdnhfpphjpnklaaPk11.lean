/- PcodeP8, PcodeStr, PcodeLaw1, in one text. -/
import Derived.Test.YtdnhfpphjpnklaaPcodeP7
import Derived.Test.YtdnhfpphjpnklaaProgRef1
/- Bytes read as a program, as the program does it: Read, whole. -/
namespace Go.Proofs.Ytdnhfpphjpnklaa
open Go.RowKit

theorem C.h0_ok (bs : List Nat) : R.Ok bs (C.h0 bs).2 := R.raw_ok (s := C.s0) ⟨Nat.zero_le _, Nat.zero_le _, by decide⟩ 4
theorem C.h0_fit (bs : List Nat) : R.Fit (C.h0 bs).2 := R.raw_fit bs (s := C.s0) (show R.Fit C.s0 from rfl) 4
theorem C.body_ok {bs : List Nat} (hb : ∀ x ∈ bs, x < 256) : R.Ok bs (C.body bs).2 := C.rdPg_keeps (P := R.Ok bs) (fun _ most h => (R.num_ok hb h most).1) _ (C.h0_ok bs)
theorem C.body_fit (bs : List Nat) : R.Fit (C.body bs).2 := C.rdPg_keeps (P := R.Fit) (fun _ most h => R.num_fit bs h most) _ (C.h0_fit bs)
theorem C.endOf_fit {n : Nat} {s : R.St} (h : R.Fit s) : R.Fit (C.endOf n s) := by
  unfold C.endOf
  split
  · exact R.fail_fit h (by decide)
  · exact h
theorem C.h0_short {bs : List Nat} (h : (C.h0 bs).2.why ≠ 0) : (C.h0 bs).1 = [] := by
  unfold C.h0 R.raw at h ⊢
  rw [if_pos (show C.s0.why = 0 from rfl), if_neg (show ¬ ((4 : Int) < 0) by decide)] at h ⊢
  by_cases h6 : (bs.length : Int) - (C.s0.at_ : Int) < 4
  · rw [if_pos h6]
  · rw [if_neg h6] at h
    exact absurd rfl h
theorem C.body_stays {bs : List Nat} (h : (C.h0 bs).2.why ≠ 0) : (C.body bs).2 = (C.h0 bs).2 := C.rdPg_keeps (C.stays_num bs _ h) _ rfl

theorem pc_read (A : Option Addr) (n c : Nat) (bs : List Nat) (w : World) (hr : Row byteV w w.heap.size A n bs) (hb : ∀ x ∈ bs, x < 256) (hm : n ≤ maxLen) (d : C.PD) (at_ why : Nat) (hx : C.read bs = (d, at_, why)) :
    Calls Try.prog 8 #[.slice A n c] w (ReadPost w d at_ why) := by
  have hlen := hr.len
  obtain ⟨out, s1, hh0⟩ : ∃ out s1, C.h0 bs = (out, s1) := ⟨_, _, rfl⟩
  obtain ⟨d0, s2, hb0⟩ : ∃ d0 s2, C.body bs = (d0, s2) := ⟨_, _, rfl⟩
  have hx2 : C.rdPg bs s1 = (d0, s2) := by rw [← hb0]; unfold C.body; rw [hh0]
  have hok1 := C.h0_ok bs
  have hok2 := C.body_ok hb
  have hfit2 := C.body_fit bs
  rw [hh0] at hok1
  rw [hb0] at hok2 hfit2
  have hat : s2.at_ ≤ n := by have := hok2.1; simp only at this; omega
  obtain ⟨s3, hs3⟩ : ∃ s3, C.endOf n s2 = s3 := ⟨_, rfl⟩
  have hfit3 : R.Fit s3 := by rw [← hs3]; exact C.endOf_fit hfit2
  have he3 : C.endOf bs.length (C.body bs).2 = s3 := by rw [hb0, hlen]; exact hs3
  by_cases h1 : 65536 < bs.length
  · rw [C.read_long h1] at hx
    cases hx
    exact pc_read_long A n c bs w hr (by omega) hm
  · have hn : n ≤ 65536 := by omega
    by_cases h2 : (C.h0 bs).2.why = 0 ∧ (C.h0 bs).1 ≠ C.mark
    · rw [C.read_form h1 h2] at hx
      cases hx
      obtain ⟨k1, _, k3⟩ := C.h0_once h2.1
      have h22 := h2.2
      rw [hh0] at k1 h22
      simp only at k1 h22
      exact pc_read_form A n c bs w hr hb hn out s1 hh0 (by rw [k1, List.length_take]; omega) h22 (fun x hx => by rw [k1] at hx; exact hb x (List.mem_of_mem_take hx))
    · by_cases h0 : (C.h0 bs).2.why = 0
      · have hmk : (C.h0 bs).1 = C.mark := Classical.byContradiction fun h => h2 ⟨h0, h⟩
        obtain ⟨k1, _, k3⟩ := C.h0_once h0
        rw [hh0] at hmk k1
        simp only at hmk k1
        have hl4 : out.length = 4 := by rw [k1, List.length_take]; omega
        by_cases h3 : s3.why = 0
        · obtain ⟨a, b, ck, hc⟩ : ∃ a b ck, Q.check (C.pgOf d0) = (a, b, ck) := ⟨_, _, _, rfl⟩
          have hck : (Q.check (C.pgOf (C.body bs).1)).2.2 = ck := by rw [hb0, hc]
          by_cases h4 : ck = 0
          · rw [h4] at hc hck
            rw [C.read_fine h1 h2 (by rw [he3]; exact h3) hck, hb0] at hx
            have e1 := (Prod.mk.inj hx).1
            have e2 := (Prod.mk.inj (Prod.mk.inj hx).2).1
            have e3 := (Prod.mk.inj (Prod.mk.inj hx).2).2
            rw [← e1, ← e2, ← e3]
            exact pc_read_fine A n c bs w hr hb hn out s1 hh0 hl4 hmk hok1 d0 s2 hx2 hat s3 hs3 h3 a b hc
          · rw [C.read_wrong h1 h2 (by rw [he3]; exact h3) (by rw [hck]; exact h4), hck] at hx
            have e1 := (Prod.mk.inj hx).1
            have e2 := (Prod.mk.inj (Prod.mk.inj hx).2).1
            have e3 := (Prod.mk.inj (Prod.mk.inj hx).2).2
            rw [← e1, ← e2, ← e3, hlen]
            exact pc_read_wrong A n c bs w hr hb hn out s1 hh0 hl4 hmk hok1 d0 s2 hx2 hat s3 hs3 h3 a b ck hc h4
        · rw [C.read_fault h1 h2 (by rw [he3]; exact h3), he3] at hx
          have e1 := (Prod.mk.inj hx).1
          have e2 := (Prod.mk.inj (Prod.mk.inj hx).2).1
          have e3 := (Prod.mk.inj (Prod.mk.inj hx).2).2
          rw [← e1, ← e2, ← e3]
          exact pc_read_fault A n c bs w hr hb hn out s1 hh0 hl4 hmk hok1 d0 s2 hx2 hat s3 hs3 hfit3 h3
      · have hst := C.body_stays h0
        have hsh := C.h0_short h0
        rw [hh0] at hsh hst h0
        rw [hb0] at hst
        simp only at hsh hst h0
        have h3 : s3.why ≠ 0 := by rw [← hs3, C.endOf_at (by rw [hst]; exact fun h => h0 h.1), hst]; exact h0
        rw [C.read_fault h1 h2 (by rw [he3]; exact h3), he3] at hx
        have e1 := (Prod.mk.inj hx).1
        have e2 := (Prod.mk.inj (Prod.mk.inj hx).2).1
        have e3 := (Prod.mk.inj (Prod.mk.inj hx).2).2
        rw [← e1, ← e2, ← e3]
        exact pc_read_short A n c bs w hr hb hn out s1 hh0 (by rw [hsh]; rfl) hok1 d0 s2 hx2 hat s3 hs3 hfit3 h3
end Go.Proofs.Ytdnhfpphjpnklaa

/- Strings out of bytes: what the walks of Read hold already. -/
namespace Go.Proofs.Ytdnhfpphjpnklaa

theorem str_here : True := trivial
end Go.Proofs.Ytdnhfpphjpnklaa

/- What layer 7's laws share: the document's example; a program's bytes, whatever the program. -/
namespace Go.Proofs.Ytdnhfpphjpnklaa
open Go.RowKit

theorem one_bytes (g g2 : Nat) : C.pgB (C.dataOf (pgOne g g2 ⟨9, 0, 0, 0⟩)) = [97, 108, 112, 49, 0, 0, 0, 1, 1, 9] := by
  have p0 : V.put (low32 0) = [0] := V.put_last _ (by decide)
  have p1 : V.put (low32 1) = [1] := V.put_last _ (by decide)
  have p9 : V.put (low32 9) = [9] := V.put_last _ (by decide)
  show C.mark ++ (C.nums [0, 0, 0] ++ (V.put (low32 ((1 : Nat) : Int)) ++ C.fnsB [[⟨9, 0, 0, 0⟩]])) = _
  unfold C.fnsB C.fnB C.ndsB C.ndB C.told C.nums
  simp only [List.flatMap_cons, List.flatMap_nil, List.map_nil, List.append_nil, show C.tl 9 = [] from rfl, List.length_cons, List.length_nil, p0, p9]
  rw [show V.put (low32 ((1 : Nat) : Int)) = [1] from p1]
  rfl
theorem one_str (l : List Nat) (h : l = [97, 108, 112, 49, 0, 0, 0, 1, 1, 9]) : ((strOf l).toList == ([97, 108, 112, 49, 0, 0, 0, 1, 1, 9] : List UInt8)) = true := by
  rw [h, strOf_list]; rfl

set_option maxRecDepth 100000 in
set_option maxHeartbeats 800000 in
theorem pc_awake (w : World) : Calls Try.prog 7 #[] w fun e w' => e = .returned (.bool true) ∧ Below w.heap.size w w' := by
  have hi9 : I64 9 := by unfold I64; omega
  obtain ⟨l, hl⟩ : ∃ l, C.pgB (C.dataOf (pgOne w.heap.size (w.heap.size + 1) ⟨9, 0, 0, 0⟩)) = l := ⟨_, rfl⟩
  have HL := kp hl
  have hl2 : l = [97, 108, 112, 49, 0, 0, 0, 1, 1, 9] := by rw [← hl]; exact one_bytes _ _
  have hlen : l.length = 10 := by rw [hl2]; rfl
  have HLen := kp hlen
  have hte := one_str l hl2
  clear hl hl2 hlen
  go_enter Try.func7, Try.ntmps7
  go_wp2_with fail
  refine (pc_write _ (pgOne w.heap.size (w.heap.size + 1) ⟨9, 0, 0, 0⟩) (oneW w ⟨9, 0, 0, 0⟩) (oneW_ok w _ (nd_ok 9 hi9)) (Nat.le_refl _) (pgOne_small _ _ _) 0 0 (check_return _ _)).mono ?_
  rintro e w1 ⟨v, rfl, hown, hb1⟩
  rw [HL.out] at hown
  obtain ⟨A1, c1, rfl, hc1, hm1, hr1⟩ := Own.readsN hown HLen.out
  have hcv := cvr (c := c1) hr1
  have HB1 : Kept (Below w.heap.size w w1) := kp ((oneW_below w _ (Below.refl _ _) (Nat.le_refl _)).trans (hb1.mono (by simp [oneW]; omega)))
  clear hb1 hown hr1
  go_wp2
  go_ret
  exact ⟨rfl, HB1.out⟩

/-- Whatever the program: its bytes if it may be, none if not. -/
theorem pc_write_any (B : Nat) (p : Pg) (w : World) (hp : p.Ok w B) (hB : B ≤ w.heap.size) (hs : Q.small p = true) (a b : Int) (c : Nat) (hc : Q.check p = (a, b, c)) :
    Calls Try.prog 12 #[pgA p] w fun e w' => ∃ A n cap l, e = .returned (.tuple #[.slice A n cap, .int .i64 (c : Int)]) ∧ Row byteV w' w'.heap.size A n l ∧ n ≤ cap ∧ cap ≤ maxLen ∧ (c = 0 → l = C.pgB (C.dataOf p)) ∧ (c ≠ 0 → l = []) ∧ Below w.heap.size w w' := by
  by_cases h0 : c = 0
  · subst h0
    refine (pc_write B p w hp hB hs a b hc).mono fun e w' ⟨v, h1, h2, h3⟩ => ?_
    obtain ⟨A, cap, rfl, k1, k2, k3⟩ := h2.readsN rfl
    exact ⟨A, _, cap, _, h1, k3, k1, k2, fun _ => rfl, fun h => absurd rfl h, h3⟩
  · exact (pc_write_not B p w hp hB hs a b c hc h0).mono fun e w' ⟨h1, h2⟩ => ⟨none, 0, 0, [], h1, Row.none_ rfl rfl, Nat.le_refl _, Nat.zero_le _, fun h => absurd h h0, fun _ => rfl, h2⟩

theorem C.read_none {bs : List Nat} {d : C.PD} {at_ why : Nat} (h : C.read bs = (d, at_, why)) (hw : why ≠ 0) : d = C.none_ := by
  by_cases h1 : 65536 < bs.length
  · rw [C.read_long h1] at h; exact (Prod.mk.inj h).1.symm
  · by_cases h2 : (C.h0 bs).2.why = 0 ∧ (C.h0 bs).1 ≠ C.mark
    · rw [C.read_form h1 h2] at h; exact (Prod.mk.inj h).1.symm
    · by_cases h3 : (C.endOf bs.length (C.body bs).2).why = 0
      · by_cases h4 : (Q.check (C.pgOf (C.body bs).1)).2.2 = 0
        · rw [C.read_fine h1 h2 h3 h4] at h
          exact absurd (Prod.mk.inj (Prod.mk.inj h).2).2.symm hw
        · rw [C.read_wrong h1 h2 h3 h4] at h; exact (Prod.mk.inj h).1.symm
      · rw [C.read_fault h1 h2 h3] at h; exact (Prod.mk.inj h).1.symm
end Go.Proofs.Ytdnhfpphjpnklaa
