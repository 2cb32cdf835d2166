/- The document's Meets, walked. -/
import Derived.Test.YtkhfolpffjihgaaScriptP8
import Derived.Test.YtkhfolpffjihgaaPk38
import Derived.Test.YtkhfolpffjihgaaPk13
namespace Go.Proofs.Ytkhfolpffjihgaa
open Go.RowKit
theorem zG {P : Program} {ops : Array Oper} {rest : List Oper} {o : Oper} {a : Act} {w : World} {Q : Exit → Act → World → Prop} (hgd : Region.wanted o (yielded ops a.tmps) = true) (ty : TypeId) (x hi : Operand) (ho : o.op = .slice ty x none (some hi) none)
    (e : TypeId) (sz : Nat) (hu : P.underlying ty = some (.slice e)) (hsz : (P.info? e).map (·.size) = some sz) (A : Option Addr) (n c : Nat) (hx : a.eval x = .slice A n c) (k : IntKind) (m : Nat) (hl : a.eval hi = .int k (m : Int)) (hmc : m ≤ c)
    (h : wpList P ops Q rest (a.put o.dst (.slice A m c)) w) : wpList P ops Q (o :: rest) a w := by
  refine BigFrame.wpList_want hgd fun K hK => ?_
  have hel : P.elem ty = e := by simp [Program.elem, hu]
  have h1 := run_slice_h (P := P) w ty A n c (by rw [hel]; exact hu) k (m : Int) (by omega) (by omega)
  have h2 := run_sliceAt_slice (P := P) w ty (.slice A n c) none (some (.int k (m : Int))) none (by rw [hel]; exact hu)
  rw [h1] at h2
  cases hq : P.info? e with
  | none => simp [hq] at hsz
  | some ie =>
    have hs : ie.size = sz := by simpa [hq] using hsz
    have hso : (sizeOf e).run P w = .ok sz w := by simp [sizeOf, typeInfo, hq, hs]
    have hk := hK _ _ h
    have e0 : (if c = 0 then A else Option.map (fun x => x.add 0) A) = A := by
      split
      · rfl
      · cases A <;> simp [Addr.add]
    unfold Oper.wp execOp
    simp only [ho, hx, hl, Option.map_some, Option.map_none, h2, Sem.run_bind, Sem.run_pure, hel, hso, sliced, Result.andThen_ok, Int.toNat_natCast, Nat.zero_mul, Nat.sub_zero, e0]
    exact hk
theorem Recs.front11 {α : Type} {sz : Nat} {f : α → Nat → Value} {w : World} {B n : Nat} {A : Option Addr} {l : List α} (h : Recs sz f w B A n l) {k : Nat} (hk : k ≤ n) : Recs sz f w B A k (l.take k) :=
  ⟨by rw [List.length_take, h.len]; omega, fun h0 => by
    obtain ⟨ad, e, hb, hc⟩ := h.cells (by omega)
    refine ⟨ad, e, hb, fun j x hx i hi => hc j x ?_ i hi⟩
    rw [List.getElem?_take] at hx
    split at hx
    · exact hx
    · cases hx⟩
theorem Picks.front {w : World} {B n : Nat} {A : Option Addr} {l : List (Int × Bool)} (h : Picks w B A n l) {k : Nat} (hk : k ≤ n) : Picks w B A k (l.take k) := ⟨h.1.front11 hk, fun x hx => h.2 x (List.mem_of_mem_take hx)⟩
theorem runTo_front (p : Pg) (z : List (Int × Bool)) (k : Nat) : runTo p (z.take k) k = runTo p z k := by unfold runTo; rw [List.take_take, Nat.min_self]
theorem least_nat {P : Nat → Prop} : ∀ n, P n → ∃ m, P m ∧ ∀ k, k < m → ¬ P k := by
  intro n
  induction n using Nat.strongRecOn with
  | ind n ih =>
    intro h
    by_cases hs : ∃ k, k < n ∧ P k
    · obtain ⟨k, hk, hp⟩ := hs
      exact ih k hk hp
    · exact ⟨n, h, fun k hk hp => hs ⟨k, hk, hp⟩⟩
theorem first_exists (p : Pg) (c : M.Cf) : ∃ x y z h, M.FirstIs p c x y z h := by
  by_cases hs : ∃ a b, a < b ∧ b < c.ths.length ∧ ¬ M.NoPair p c a b
  · obtain ⟨a0, hb0⟩ := hs
    obtain ⟨a, ⟨b0, h0⟩, ha⟩ := least_nat (P := fun a => ∃ b, a < b ∧ b < c.ths.length ∧ ¬ M.NoPair p c a b) a0 hb0
    obtain ⟨b, hb, hbm⟩ := least_nat (P := fun b => a < b ∧ b < c.ths.length ∧ ¬ M.NoPair p c a b) b0 h0
    refine ⟨_, _, _, 1, .inl ⟨rfl, a, b, rfl, rfl, rfl, hb.1, hb.2.1, hb.2.2, fun a' b' h1 h2 h3 => ?_⟩⟩
    rcases h3 with h3 | ⟨rfl, h3⟩
    · exact Classical.byContradiction fun hn => ha a' h3 ⟨b', h1, h2, hn⟩
    · exact Classical.byContradiction fun hn => hbm b' h3 ⟨h1, h2, hn⟩
  · exact ⟨0, 0, 0, 0, .inr ⟨rfl, rfl, rfl, rfl, fun a b h1 h2 => Classical.byContradiction fun hn => hs ⟨a, b, h1, h2, hn⟩⟩⟩
theorem first_is11 {p : Pg} {c : M.Cf} {x y z h : Int} (hf : M.FirstIs p c x y z h) : (h = 1 ∧ RaceAt p c) ∨ (h = 0 ∧ ¬ RaceAt p c) := by
  have h2 := hf
  rcases h2 with ⟨rfl, _⟩ | ⟨rfl, _⟩
  · exact .inl ⟨rfl, x, y, z, hf⟩
  · refine .inr ⟨rfl, fun ⟨x', y', z', h'⟩ => ?_⟩
    exact absurd (M.first_one hf h').2.2.2 (by decide)
def DocMeets (p : Pg) (n : Nat) (z : List (Int × Bool)) (w : World) : Ending → World → Prop := fun e w' => ∃ (m : Int) (k : Nat) (b : Bool), e = .returned (.int .i64 m) ∧ MeetIs p n z k b ∧ (b = true → m = (k : Int)) ∧ (b = false → m = -1) ∧ Below w.heap.size w w'
set_option maxRecDepth 1000000 in
set_option maxHeartbeats 8000000 in
theorem doc_meets (B : Nat) (p : Pg) (A : Option Addr) (n c : Nat) (z : List (Int × Bool)) (w : World) (hp : p.Ok w B) (hz : Picks w B A n z) (hc : n ≤ c ∧ c ≤ maxLen) (hn : n ≤ 300) (hf : Fine p) (hB : B ≤ w.heap.size) :
    Calls Try.prog 18 #[pgA p, .slice A n c] w (DocMeets p n z w) := by
  have HP := kp hp; have HZ := kp hz; have HF := kp hf; have HLn := kp hz.1.len; have HCc := kp hc; have hnc := hc.1; have hcm := hc.2
  unfold maxLen at hcm
  have HGd : Kept (∀ i, M.Good p (runTo p z i)) := kp (qG hf hp.row.len z)
  clear hp hz hf hc
  rw [jO]
  go_enter Try.func18, Try.ntmps18
  go_wp2_with (first
    | ((with_reducible refine j2 rfl 38 (.tmp 0) rfl (pgC p) rfl ?_); intro gP w1 hgP hk1 hw1; have HKp1 := kp hk1; have HGP := kp hgP; have HW1 := kp hw1; have hs1 := hw1.size; have hl1 := hk1.lt; clear hk1 hw1 hgP))
  go_loopw [5] (fun v5 wr => ∃ i : Nat, i ≤ n + 1 ∧ v5 = .int .i64 i ∧ (∀ j, j < i → ¬ RaceAt p (runTo p z j)) ∧ Below w.heap.size w wr ∧ Blk wr gP 38 (pgC p)) (fun v5 _ => n + 1 - (intOf v5).toNat)
  case atStart => exact ⟨0, by omega, rfl, (fun _ h => by omega), HW1.out, HKp1.out⟩
  case round =>
    obtain ⟨i, hi, rfl, hno, hbw, hkp⟩ := hrel
    have HNo := kp hno; have HB := kp hbw; have HK := kp hkp; have hBs := hbw.size; have hlK := hkp.lt
    clear hno hbw hkp
    by_cases hlt : i ≤ n
    · obtain ⟨x, y, zz, h, hfi⟩ := first_exists p (runTo p z i)
      have HFi := kp hfi
      clear hfi
      go_wp2
      apply lI (.is (.agg (pgC p).toArray) :: .is (.agg (pgC p).toArray) :: .is (.slice A n c) :: .is (.int .i64 (i : Int)) :: .is (.slice A i c) :: Fact.rsteppedR wr.heap.size (runTo p z i) :: .is (.tuple #[.int .i64 x, .int .i64 y, .int .i64 zz, .int .i64 h]) :: .is (.tuple #[.int .i64 x, .int .i64 y, .int .i64 zz, .int .i64 h]) :: .is (.int .i64 x) :: .is (.int .i64 y) :: .is (.int .i64 zz) :: .is (.int .i64 h) :: .is (.int .i64 x) :: .is (.int .i64 y) :: .is (.int .i64 zz) :: .is (.int .i64 h) :: [])
        [[], [], [], [], [(2, 19), (3, 20)], [(1, 18), (4, 21)], [(0, 17), (5, 22)], [(6, 23)], [(7, 16)], [(7, 16)], [(7, 16)], [(7, 16)], [(8, 24)], [(9, 25)], [(10, 26)], [(11, 27)]]
        [(0, 17), (1, 18), (2, 19), (3, 20), (4, 21), (5, 22), (6, 23), (7, 16), (8, 24), (9, 25), (10, 26), (11, 27), (12, 6), (13, 7), (14, 8), (15, 9)] (by kernel_rfl) (by kernel_rfl)
      case hob =>
        refine ⟨?o0, ?o1, ?o2, ?o3, ?o4, ?o5, ?o6, ?o7, ?o8, ?o9, ?o10, ?o11, ?o12, ?o13, ?o14, ?o15, trivial⟩
        case o0 =>
          intro W hW; change wpList _ _ _ _ _ _
          go_must (refine j1 rfl 38 (.tmp 2) rfl gP rfl _ (pgC p) _ (HK.out.below hW hlK) Try.underlying38 rfl jB ?_)
          go_wp2; exact j0 rfl rfl rfl
        case o1 =>
          intro W hW; change wpList _ _ _ _ _ _
          go_must (refine j1 rfl 38 (.tmp 2) rfl gP rfl _ (pgC p) _ (HK.out.below hW hlK) Try.underlying38 rfl jB ?_)
          go_wp2; exact j0 rfl rfl rfl
        case o2 => intro W hW; change wpList _ _ _ _ _ _; go_wp2; exact j0 rfl rfl rfl
        case o3 => intro W hW; change wpList _ _ _ _ _ _; go_wp2; exact j0 rfl rfl rfl
        case o4 =>
          intro W hW; rintro _ rfl; rintro _ rfl; change wpList _ _ _ _ _ _
          go_must (refine zG rfl 22 (.tmp 19) (.tmp 20) rfl 29 2 Try.underlying22 zA A n c rfl .i64 i rfl (by omega) ?_)
          go_wp2; exact j0 rfl rfl rfl
        case o5 =>
          intro W hW; rintro _ rfl; rintro _ rfl; change wpList _ _ _ _ _ _
          have hsW := hW.size
          go_wp2_with fail
          refine (ref_run p A i c (z.take i) W (qZ (HP.out.below ((HB.out.trans (hW.mono hBs)).mono hB)) (by omega)) (((HZ.out.front hlt).below ((HB.out.trans (hW.mono hBs)).mono hB)).more (by omega)) ⟨by omega, HCc.out.2⟩ (by omega) HF.out).mono ?_
          unfold StepR
          rintro e w6 ⟨q', rfl, hm, hcf, hb6⟩
          rw [runTo_front] at hcf
          have HM := kp (hm.lessR hsW); have HCf := kp hcf; have HB6 := kp hb6
          clear hm hcf hb6
          go_wp2
          exact jC rfl rfl rfl HB6.out ⟨q', rfl, HM.out, HCf.out⟩
        case o6 =>
          intro W hW; rintro _ rfl; rintro _ ⟨q', rfl, hm, hcf⟩; change wpList _ _ _ _ _ _
          have hsW := hW.size
          have HM := kp hm.ok; have HCf := kp hcf
          clear hm hcf
          go_wp2_with fail
          refine (ra_first W.heap.size p HF.out q' W (qZ (HP.out.below ((HB.out.trans (hW.mono hBs)).mono hB)) (by omega)) HM.out (by rw [HCf.out]; exact HGd.out i) (Nat.le_refl _)).mono ?_
          unfold FirstR
          rintro e w6 ⟨x', y', z', h', rfl, hfi, hb6⟩
          rw [HCf.out] at hfi
          obtain ⟨rfl, rfl, rfl, rfl⟩ := M.first_one hfi HFi.out
          have HB6 := kp hb6
          clear hfi hb6
          go_wp2
          exact jC rfl rfl rfl HB6.out rfl
        case o7 => intro W hW; rintro _ rfl; change wpList _ _ _ _ _ _; go_wp2; exact j0 rfl rfl rfl
        case o8 => intro W hW; rintro _ rfl; change wpList _ _ _ _ _ _; go_wp2; exact j0 rfl rfl rfl
        case o9 => intro W hW; rintro _ rfl; change wpList _ _ _ _ _ _; go_wp2; exact j0 rfl rfl rfl
        case o10 => intro W hW; rintro _ rfl; change wpList _ _ _ _ _ _; go_wp2; exact j0 rfl rfl rfl
        case o11 => intro W hW; rintro _ rfl; change wpList _ _ _ _ _ _; go_wp2; exact j0 rfl rfl rfl
        case o12 => intro W hW; rintro _ rfl; change wpList _ _ _ _ _ _; go_wp2; exact j0 rfl rfl rfl
        case o13 => intro W hW; rintro _ rfl; change wpList _ _ _ _ _ _; go_wp2; exact j0 rfl rfl rfl
        case o14 => intro W hW; rintro _ rfl; change wpList _ _ _ _ _ _; go_wp2; exact j0 rfl rfl rfl
        case o15 => intro W hW; rintro _ rfl; change wpList _ _ _ _ _ _; go_wp2; exact j0 rfl rfl rfl
      case hend =>
        intro W hW; rintro _ rfl; rintro _ rfl; rintro _ rfl; rintro _ rfl; rintro _ rfl; rintro _ ⟨q', rfl, _, _⟩; rintro _ rfl; rintro _ rfl; rintro _ rfl; rintro _ rfl; rintro _ rfl; rintro _ rfl; rintro _ rfl; rintro _ rfl; rintro _ rfl; rintro _ rfl
        simp only [given, jI, List.set]
        have HB2 := kp (HB.out.trans (hW.mono hBs)); have HK2 := kp (HK.out.below hW hlK)
        clear hW
        rcases first_is11 HFi.out with ⟨rfl, hra⟩ | ⟨rfl, hra⟩
        · have HRa := kp hra
          clear hra
          go_wp2
          go_ret
          exact ⟨i, i, true, rfl, .inl ⟨rfl, hlt, HRa.out, HNo.out⟩, (fun _ => rfl), (fun h => by cases h), HB2.out⟩
        · have HRa := kp hra
          clear hra
          go_wp2
          go_roundw
          case rel =>
            refine ⟨i + 1, by omega, by go_num, fun j hj => ?_, HB2.out, HK2.out⟩
            by_cases e : j = i
            · subst e; exact HRa.out
            · exact HNo.out j (by omega)
          case measure => simp [intOf]; omega
    · have hgt : n < i := by omega
      clear hlt
      go_wp2
      go_ret
      exact ⟨-1, 0, false, rfl, .inr ⟨rfl, rfl, fun j hj => HNo.out j (by omega)⟩, (fun h => by cases h), (fun _ => rfl), HB.out⟩
end Go.Proofs.Ytkhfolpffjihgaa
