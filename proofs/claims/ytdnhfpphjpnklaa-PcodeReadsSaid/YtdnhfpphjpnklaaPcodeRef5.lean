/- Bytes read as a program, as the document has it: Read, whole. -/
import Derived.Test.YtdnhfpphjpnklaaPcodeRef3
import Derived.Test.YtdnhfpphjpnklaaPcodeRef4
import Derived.Test.YtdnhfpphjpnklaaPk11
namespace Go.Proofs.Ytdnhfpphjpnklaa
open Go.RowKit

theorem ref_read (A : Option Addr) (n c : Nat) (bs : List Nat) (w : World) (hr : Row byteV w w.heap.size A n bs) (hb : ∀ x ∈ bs, x < 256) (hnc : n ≤ c) (hcm : c ≤ maxLen) (d : C.PD) (at_ why : Nat) (hx : C.read bs = (d, at_, why)) :
    Calls Try.prog 9 #[.slice A n c] w (RefPost w d at_ why) := by
  have hlen := hr.len
  obtain ⟨out, s1, hh0⟩ : ∃ out s1, C.h0 bs = (out, s1) := ⟨_, _, rfl⟩
  obtain ⟨d0, s2, hb0⟩ : ∃ d0 s2, C.body bs = (d0, s2) := ⟨_, _, rfl⟩
  have hx2 : C.rdPg bs s1 = (d0, s2) := by rw [← hb0]; unfold C.body; rw [hh0]
  have hok1 := C.h0_ok bs
  rw [hh0] at hok1
  obtain ⟨s3, hs3⟩ : ∃ s3, C.endOf n s2 = s3 := ⟨_, rfl⟩
  have he3 : C.endOf bs.length (C.body bs).2 = s3 := by rw [hb0, hlen]; exact hs3
  obtain ⟨a, b, ck, hc⟩ : ∃ a b ck, Q.check (C.pgOf d0) = (a, b, ck) := ⟨_, _, _, rfl⟩
  have hck : (Q.check (C.pgOf (C.body bs).1)).2.2 = ck := by rw [hb0, hc]
  by_cases h1 : 65536 < bs.length
  · rw [C.read_long h1] at hx
    cases hx
    exact ref_read_long A n c bs w hr (by omega) (by omega)
  · have hn : n ≤ 65536 := by omega
    by_cases h2 : (C.h0 bs).2.why = 0 ∧ (C.h0 bs).1 ≠ C.mark
    · rw [C.read_form h1 h2] at hx
      cases hx
      obtain ⟨k1, _, k3⟩ := C.h0_once h2.1
      have h22 := h2.2
      have h21 := h2.1
      rw [hh0] at k1 h22 h21
      simp only at k1 h22 h21
      exact ref_read_form A n c bs w hr hb hn out s1 hh0 (by rw [k1, List.length_take]; omega) h21 h22 (fun x hx => by rw [k1] at hx; exact hb x (List.mem_of_mem_take hx))
    · have hF : (s3.why = 0 → ck = 0 → d = d0 ∧ at_ = 0 ∧ why = 0) ∧ (s3.why = 0 → ck ≠ 0 → d = C.none_ ∧ at_ = n ∧ why = ck) ∧ (s3.why ≠ 0 → d = C.none_ ∧ at_ = s3.wh ∧ why = s3.why) := by
        refine ⟨fun h3 h4 => ?_, fun h3 h4 => ?_, fun h3 => ?_⟩
        · rw [C.read_fine h1 h2 (by rw [he3]; exact h3) (by rw [hck]; exact h4), hb0] at hx
          exact ⟨(Prod.mk.inj hx).1.symm, (Prod.mk.inj (Prod.mk.inj hx).2).1.symm, (Prod.mk.inj (Prod.mk.inj hx).2).2.symm⟩
        · rw [C.read_wrong h1 h2 (by rw [he3]; exact h3) (by rw [hck]; exact h4), hck, hlen] at hx
          exact ⟨(Prod.mk.inj hx).1.symm, (Prod.mk.inj (Prod.mk.inj hx).2).1.symm, (Prod.mk.inj (Prod.mk.inj hx).2).2.symm⟩
        · rw [C.read_fault h1 h2 (by rw [he3]; exact h3), he3] at hx
          exact ⟨(Prod.mk.inj hx).1.symm, (Prod.mk.inj (Prod.mk.inj hx).2).1.symm, (Prod.mk.inj (Prod.mk.inj hx).2).2.symm⟩
      by_cases h0 : (C.h0 bs).2.why = 0
      · have hmk : (C.h0 bs).1 = C.mark := Classical.byContradiction fun h => h2 ⟨h0, h⟩
        obtain ⟨k1, _, k3⟩ := C.h0_once h0
        rw [hh0] at hmk k1 h0
        simp only at hmk k1 h0
        exact ref_read_main A n c bs w hr hb hn hnc hcm out s1 hh0 (by rw [k1, List.length_take]; omega) hmk h0 hok1 d0 s2 hx2 s3 hs3 a b ck hc d at_ why hF
      · have hsh := C.h0_short h0
        rw [hh0] at hsh h0
        simp only at hsh h0
        exact ref_read_short A n c bs w hr hb hn hnc hcm out s1 hh0 (by rw [hsh]; rfl) h0 hok1 d0 s2 hx2 s3 hs3 a b ck hc d at_ why hF
end Go.Proofs.Ytdnhfpphjpnklaa
