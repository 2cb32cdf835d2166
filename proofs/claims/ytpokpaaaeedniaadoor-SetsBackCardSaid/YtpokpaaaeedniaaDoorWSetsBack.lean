/- SetsBack, walked. -/
import Derived.Test.YtpokpaaaeedniaaDoorSetLaw2
namespace Go.Proofs.YtpokpaaaeedniaaDoor
open Go.RowKit

theorem quiet_eq {P : Program} {f : FuncId} {args : Array Value} {w : World} {n : Nat} {v : Value}
    (h : Calls P f args (w.drewN n) fun e w' => e = .returned v ∧ w.drewN n = w') : Calls P f args (w.drewN n) fun e w'' => e = .returned v ∧ ∃ m, w'' = w.drewN m :=
  h.mono fun _ _ ⟨he, hm⟩ => ⟨he, n, hm.symm⟩
theorem Row.drewN {α : Type} {f : α → Value} {w : World} {B : Nat} {A : Option Addr} {n : Nat} {l : List α} (h : Row f w B A n l) (k : Nat) : Row f (w.drewN k) B A n l := h.keep fun _ _ => rfl
theorem Row.asInts {w : World} {B : Nat} {A : Option Addr} {n : Nat} {l : List Nat} (h : Row natV w B A n l) : Row intV w B A n (l.map fun x : Nat => (x : Int)) :=
  ⟨by rw [List.length_map]; exact h.len, fun h0 => by
    obtain ⟨ad, e, hb, hc⟩ := h.cells h0
    refine ⟨ad, e, hb, fun k hk => ?_⟩
    rw [hc k hk, List.getElem?_map]
    cases l[k]? <;> rfl⟩

set_option maxRecDepth 1000000 in
set_option maxHeartbeats 1600000 in
theorem walkSetsBack (a0 : Int) (w : World) (w0 : (Lit.int .u32 a0).wf = true) (hL : Tab w) :
    Calls Tryd.prog 5 #[.int .u32 a0] w fun e w' => e = .returned (.bool true) ∧ Below w.heap.size w w' := by
  obtain ⟨m, rfl, hm⟩ := nat_u32 w0
  have hs := hL.size
  have HT := kp hL
  obtain ⟨l, hl⟩ : ∃ l, S.ids m 32 = l := ⟨_, rfl⟩
  obtain ⟨n, hn⟩ : ∃ n, l.length = n := ⟨_, rfl⟩
  have hofs := S.of_ids m hm
  rw [hl] at hofs
  have HOf := kp hofs
  have hn32 : n ≤ 32 := by rw [← hn, ← hl]; exact S.ids_len m 32
  have HIn : Kept (∀ x ∈ (l.map fun x : Nat => (x : Int)), -9223372036854775808 ≤ x ∧ x ≤ 9223372036854775807) := kp <| fun x hx => by
    obtain ⟨y, hy, rfl⟩ := List.mem_map.1 hx
    rw [← hl] at hy
    have := ((S.ids_mem m 32 y).1 hy).1
    omega
  have HC : Kept (S.count m = n) := kp <| by rw [← hn, ← hl]; rfl
  have HWA : Kept (S.within m 4294967295 32 = true) := kp (S.within_all m)
  have HA32 : Kept (S.all 32 = 4294967295) := kp <| by decide
  have HL := kp hl; have HN := kp hn
  clear w0 hL hofs hl hn
  go_enter Tryd.func5, Tryd.ntmps5
  go_wp2_with (first
    | (go_at_call 9; go_must (refine (awake_any _ HT.out hs).mono ?_); rintro e w1 ⟨rfl, hb1⟩; have HB1 := kp hb1; have hs1 := hb1.size; clear hb1)
    | (go_at_call 19; go_must (refine (list_any m hm w1 (HT.out.below HB1.out hs) (by omega)).mono ?_); rintro e w2 ⟨v, rfl, hown, hb2⟩
       rw [HL.out] at hown
       obtain ⟨A2, c2, rfl, hc2, hm2, hr2⟩ := Own.readsN hown HN.out
       have HR2 := kp hr2
       have HB2 := kp (HB1.out.trans (hb2.mono (by omega)))
       have hm22 : c2 ≤ 9223372036854775807 := by unfold maxLen at hm2; omega
       clear hown hb2 hr2 hm2)
    | (go_at_call 22; go_must (refine (of_any _ A2 n c2 _ 32 _ HR2.out.asInts HIn.out (by omega) (by omega) m 0 HOf.out.1 HOf.out.2).mono ?_); rintro e w' ⟨rfl, rfl⟩))
  have HT2 : Kept (∀ k, Tab (w2.drewN k)) := kp <| fun k => (HT.out.below HB2.out hs).drewN k
  by_cases h0 : m = 0
  · subst h0
    go_quiet (first
      | (go_at_call 16; exact quiet_eq (count_any 0 hm n HC.out _))
      | (go_at_call 21; exact quiet_eq (all_any 32 (by omega) _ HA32.out _))
      | (go_at_call 14; exact quiet_eq (within_any 0 4294967295 hm (by omega) _ HWA.out _)))
    go_wp2
    go_ret
    exact ⟨rfl, below_drewN HB2.out _⟩
  · have hb0 : ((m : Int) == 0) = false := by simpa using h0
    obtain ⟨k, hk, hi, _, _⟩ := S.low m h0 hm
    have HLs : Kept (S.least m = (k : Int)) := kp (S.least_low m k _ hi)
    have h0n : 0 < n := by
      rw [← HN.out, ← HL.out, hi]; simp
    obtain ⟨ad, x, rfl, _, hx, hc⟩ := HR2.out.get h0n
    have hxk : x = k := by
      rw [← HL.out, hi] at hx
      exact (Option.some.inj hx).symm
    subst hxk
    have hc0 : w2.cell? ad = some (.int .i64 (x : Int)) := by simpa [Addr.add, natV] using hc
    clear hi hx hc
    go_quiet (first
      | (go_at_call 16; exact quiet_eq (count_any m hm n HC.out _))
      | (go_at_call 21; exact quiet_eq (all_any 32 (by omega) _ HA32.out _))
      | (go_at_call 14; exact quiet_eq (within_any m 4294967295 hm (by omega) _ HWA.out _))
      | (go_at_call 17; exact quiet_eq (least_any m hm x HLs.out _ (HT2.out _))))
    go_wp2
    go_ret
    exact ⟨rfl, below_drewN HB2.out _⟩
end Go.Proofs.YtpokpaaaeedniaaDoor
