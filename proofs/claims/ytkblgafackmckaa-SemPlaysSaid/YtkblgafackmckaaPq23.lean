/- SemLaw1, Equal, Equal2, in one text. -/
import Derived.Test.YtkblgafackmckaaPq22
import Derived.Test.YtkblgafackmckaaPq8
import Derived.Test.YtkblgafackmckaaPq3
import Derived.Laws.StructEq
import Derived.BigFrame
/- What the statements of sem begin with, walked: awake; picks. -/
namespace Go.Proofs.Ytkblgafackmckaa
open Go.RowKit

/-- Behind the first picks. -/
def runTo (p : Pg) (l : List (Int × Bool)) (i : Nat) : M.Cf := (l.take i).foldl (fun c x => M.step p c x.1 x.2) M.start
theorem runTo_zero (p : Pg) (l : List (Int × Bool)) : runTo p l 0 = M.start := rfl
theorem runTo_succ (p : Pg) (l : List (Int × Bool)) (i : Nat) (x : Int × Bool) (hx : l[i]? = some x) : runTo p l (i + 1) = M.step p (runTo p l i) x.1 x.2 := by
  unfold runTo
  rw [List.take_add_one, hx, List.foldl_append]; rfl
theorem runTo_good {p : Pg} (hf : Fine p) (hl : p.fns.length = p.len) (l : List (Int × Bool)) : ∀ i, M.Good p (runTo p l i)
  | 0 => M.good_start hf
  | i + 1 => by
    cases hx : l[i]? with
    | some x => rw [runTo_succ p l i x hx]; exact M.good_step hf hl (runTo_good hf hl l i) _ _
    | none =>
      have h := runTo_good hf hl l i
      unfold runTo at h ⊢
      rw [List.take_add_one, hx, Option.toList, List.append_nil]; exact h
/-- A program of one function, a Lock. -/
def pgLock (g g2 : Nat) : Pg := ⟨0, 1, 0, some ⟨g2, 0, none⟩, 1, 1, [⟨some ⟨g, 0, none⟩, 1, 1, [⟨3, 0, 0, 0⟩]⟩]⟩
theorem pgLock_ok (w : World) (g g2 : Nat) (h1 : Blk w g 47 (ndC ⟨3, 0, 0, 0⟩)) (h2 : Blk w g2 71 [.slice (some ⟨g, 0, none⟩) 1 1]) : (pgLock g g2).Ok w w.heap.size := by
  have h := pgOne_ok ⟨3, 0, 0, 0⟩ (nd_ok 3 (by unfold I64; omega)) w g g2 h1 h2
  exact ⟨h.g, by unfold I64; simp [pgLock], h.s, h.row, h.fns, h.lc, h.cm, h.nil⟩
theorem check_lock (g g2 : Nat) : Q.check (pgLock g g2) = (0, 0, 0) := by
  refine Q.check_fine (by constructor <;> simp [pgLock]) ?_ ?_
  · rintro j hj ⟨fn, hfn, hb⟩
    have hj0 : j = 0 := by simpa [pgLock] using hj
    subst hj0
    have hf : fn = ⟨some ⟨g, 0, none⟩, 1, 1, [⟨3, 0, 0, 0⟩]⟩ := by simpa [pgLock] using hfn.symm
    subst hf
    refine hb ?_
    rw [Q.fault_none _ _ (by simp) (by simp) ?_]
    rintro i hi ⟨nd, hnd, hm⟩
    have hi0 : i = 0 := by simpa using hi
    subst hi0
    have : nd = ⟨3, 0, 0, 0⟩ := by simpa using hnd.symm
    subst this
    have hm' : Q.may 0 1 0 1 ⟨3, 0, 0, 0⟩ 1 = false := hm
    exact absurd hm' (by decide)
  · rintro j hj ⟨i, fn, nd, hfn, hnd, h7, _⟩
    have hj0 : j = 0 := by simpa [pgLock] using hj
    subst hj0
    have hf : fn = ⟨some ⟨g, 0, none⟩, 1, 1, [⟨3, 0, 0, 0⟩]⟩ := by simpa [pgLock] using hfn.symm
    subst hf
    have hm := List.mem_of_getElem? hnd
    rw [List.mem_singleton] at hm
    subst hm
    cases h7
theorem lock_first (g g2 : Nat) : M.enabled (pgLock g g2) M.start 0 = true := by rfl
theorem lock_step (g g2 : Nat) : M.step (pgLock g g2) M.start 0 false = ⟨[⟨[(0, 0)], List.replicate 8 0⟩], (List.replicate 16 0).set 0 1⟩ := by rfl
theorem lock_then (g g2 : Nat) : M.enabled (pgLock g g2) ⟨[⟨[(0, 0)], List.replicate 8 0⟩], (List.replicate 16 0).set 0 1⟩ 0 = false := by rfl

theorem pg_more9 {p : Pg} {w : World} {B B' : Nat} (h : p.Ok w B) (hB : B ≤ B') : p.Ok w B' := ⟨h.g, h.l, h.s, h.row.more hB, fun f hf => ⟨⟨(h.fns f hf).nodes.1.more hB, (h.fns f hf).nodes.2⟩, (h.fns f hf).lc, (h.fns f hf).cm, (h.fns f hf).nil⟩, h.lc, h.cm, h.nil⟩
/-- The world in which it was built. -/
def lockW (w : World) : World := (w.alloc (.cells #[.int .i64 3, .int .i64 0, .int .i64 0, .int .i64 0] 47)).alloc (.cells #[.slice (some ⟨w.heap.size, 0, none⟩) 1 1] 71)
theorem lockW_ok (w : World) : (pgLock w.heap.size (w.heap.size + 1)).Ok (lockW w) (lockW w).heap.size :=
  pgLock_ok _ _ _ ((Blk.newA w 47 _ (ndC ⟨3, 0, 0, 0⟩) rfl).alloc _) (Blk.newAt rfl (by simp))
theorem lockW_below (w : World) : Below w.heap.size w (lockW w) := ((Below.refl _ _).alloc (Nat.le_refl _) _).alloc (by simp) _

set_option maxRecDepth 100000 in
set_option maxHeartbeats 3200000 in
theorem sem_awake (w : World) : Calls Try.prog 9 #[] w fun e w' => e = .returned (.bool true) ∧ Below w.heap.size w w' := by
  have HF : Kept (Fine (pgLock w.heap.size (w.heap.size + 1))) := kp (fine_of (check_lock _ _))
  have HG0 : Kept (M.Good (pgLock w.heap.size (w.heap.size + 1)) M.start) := kp (M.good_start HF.out)
  have HBa : Kept (Below w.heap.size w ((lockW w).alloc (.cells #[.int .i64 0, .int .i64 1, .int .i64 0, .slice (some ⟨w.heap.size + 1, 0, none⟩) 1 1] 24))) := kp ((lockW_below w).trans ((Below.refl _ _).alloc (lockW_below w).size _))
  have HPa : Kept ((pgLock w.heap.size (w.heap.size + 1)).Ok ((lockW w).alloc (.cells #[.int .i64 0, .int .i64 1, .int .i64 0, .slice (some ⟨w.heap.size + 1, 0, none⟩) 1 1] 24)) (lockW w).heap.size) := kp ((lockW_ok w).below ((Below.refl _ _).alloc (Nat.le_refl _) _))
  have HKa : Kept (Blk ((lockW w).alloc (.cells #[.int .i64 0, .int .i64 1, .int .i64 0, .slice (some ⟨w.heap.size + 1, 0, none⟩) 1 1] 24)) (w.heap.size + 2) 24 (pgC (pgLock w.heap.size (w.heap.size + 1)))) := kp (Blk.newAt rfl (by simp [lockW]))
  have HSz : Kept ((lockW w).heap.size ≤ ((lockW w).alloc (.cells #[.int .i64 0, .int .i64 1, .int .i64 0, .slice (some ⟨w.heap.size + 1, 0, none⟩) 1 1] 24)).heap.size) := kp (by simp)
  have hi0 : Kept (I64 0) := kp (by unfold I64; omega)
  go_enter Try.func9, Try.ntmps9
  go_wp2_with fail
  refine (sem_start (lockW w).heap.size (pgLock w.heap.size (w.heap.size + 1)) _ HPa.out HSz.out 0 0 0 (check_lock _ _)).mono ?_
  obtain ⟨g1, hg1⟩ : ∃ g1, w.heap.size + 2 = g1 := ⟨_, rfl⟩
  obtain ⟨p, hp⟩ : ∃ p, pgLock w.heap.size (w.heap.size + 1) = p := ⟨_, rfl⟩
  have HEn0 : Kept (M.enabled p M.start 0 = true) := kp (by rw [← hp]; exact lock_first _ _)
  have HSt0 : Kept (M.step p M.start 0 false = ⟨[⟨[(0, 0)], List.replicate 8 0⟩], (List.replicate 16 0).set 0 1⟩) := kp (by rw [← hp]; exact lock_step _ _)
  have HEn1 : Kept (M.enabled p ⟨[⟨[(0, 0)], List.replicate 8 0⟩], (List.replicate 16 0).set 0 1⟩ 0 = false) := kp (by rw [← hp]; exact lock_then _ _)
  rw [hp] at HF HG0 HPa HKa
  rw [hg1] at HKa ⊢
  obtain ⟨wa, hwa⟩ : ∃ wa, (lockW w).alloc (.cells #[.int .i64 0, .int .i64 1, .int .i64 0, .slice (some ⟨w.heap.size + 1, 0, none⟩) 1 1] 24) = wa := ⟨_, rfl⟩
  obtain ⟨B, hB⟩ : ∃ B, (lockW w).heap.size = B := ⟨_, rfl⟩
  rw [hwa] at HBa HPa HKa HSz
  rw [hB] at HPa HSz
  have hla := HKa.out.lt
  have hsa := HBa.out.size
  have hE : Kept (pgC p = [.int .i64 0, .int .i64 1, .int .i64 0, .slice (some ⟨w.heap.size + 1, 0, none⟩) 1 1]) := kp (by rw [← hp]; rfl)
  have HWa := kp hwa
  clear hwa hB hp
  rintro e w4 ⟨q0, rfl, hok, hcf, _, h16, hb4⟩
  have HOk0 := kp hok; have HCf0 := kp (hcf rfl); have H17 := kp (conf_len h16); have HL4 : Kept (Below wa.heap.size wa w4) := kp (by rw [← HWa.out]; exact hb4)
  have hs4 := HL4.out.size
  clear HWa
  have hB4 : B ≤ w4.heap.size := by have := HSz.out; omega
  clear hok hcf h16 hb4
  go_wp2_with (first
    | ((with_reducible show wpList _ _ _ (⟨some 2, _, _, _, _, _⟩ :: _) _ _); go_must (refine wpList_alloc_zero rfl 31 rfl _ conf_zero ?_); intro g2 w5 hg2 hk5 hw5; have HK25 := kp hk5; have HL5 := kp (HL4.out.trans (hw5.mono hs4)); have HM5 := kp hw5; have hs5 := HL5.out.size; have hs45 := hw5.size; clear hk5 hw5)
    | ((with_reducible show wpList _ _ _ (⟨none, _, _, _, _, _⟩ :: _) _ _); (refine wpList_store_blk rfl 31 (.tmp 2) (.tmp 12) rfl g2 (pcC q0) rfl rfl _ _ HK25.out (by rw [H17.out]; exact conf_size) (by rw [H17.out]; rfl) (conf_ones q0) ?_); intro w6 hk6 hg6 hs6'
       have HK26 := kp hk6; have HL6 := kp (HL5.out.grown hg6 hs5 (fun k e => by cases e; omega)); have HM6 := kp (HM5.out.grown hg6 hs45 (fun k e => by cases e; omega)); have hs6 := HL6.out.size; have hs46 := HM6.out.size
       have HP6 := kp ((HPa.out.below (HL6.out.mono HSz.out))); have HK16 := kp (HKa.out.below HL6.out hla); have HO6 := kp ((HOk0.out.below HM6.out).more hs46)
       have HP6w := kp (pg_more9 HP6.out (show B ≤ w6.heap.size by omega))
       have hl26 := hk6.lt; have hl16 := HK16.out.lt
       clear hk6 hg6 hs6')
    | ((with_reducible show wpList _ _ _ (⟨some 14, _, _, _, _, _⟩ :: _) _ _); go_must (refine wpList_load_blk rfl 31 (.tmp 2) rfl g2 rfl _ (pcC q0) _ HK26.out Try.underlying31 rfl (by rw [H17.out]; exact conf_size) ?_))
    | ((with_reducible show wpList _ _ _ (⟨some 15, _, _, _, _, _⟩ :: _) _ _); go_must (refine wpList_load_blk rfl 24 (.tmp 1) rfl g1 rfl _ (pgC p) _ HK16.out Try.underlying24 rfl pg_size ?_))
    | (go_at_call 24; go_must (refine (sem_step w6.heap.size p HF.out q0 w6 HP6w.out HO6.out (by rw [HCf0.out]; exact HG0.out) (Nat.le_refl _) 0 hi0.out false).mono ?_); rintro e w7 ⟨q1, rfl, hok1, hcf1, hb7⟩
       have HOk1 := kp hok1.ok; have HCf1 : Kept (q1.cf = ⟨[⟨[(0, 0)], List.replicate 8 0⟩], (List.replicate 16 0).set 0 1⟩) := kp (by rw [hcf1, HCf0.out, HSt0.out])
       have H171 : Kept ((pcC q1).length = 17) := kp (conf_len (by have h := congrArg M.Cf.owners HCf1.out; have h2 : q1.ow = (List.replicate 16 0).set 0 1 := h; rw [h2]; rfl))
       have HL7 := kp (HL6.out.trans (hb7.mono hs6)); have HK27 := kp (HK26.out.below hb7 hl26); have HK17 := kp (HK16.out.below hb7 hl16); have HP7 := kp (HP6w.out.below hb7); have HO7 := kp (HO6.out.below hb7); have hs7 := HL7.out.size; have hs67 := hb7.size; have hl27 := HK27.out.lt; have hl17 := HK17.out.lt
       clear hok1 hcf1 hb7)
    | ((with_reducible show wpList _ _ _ (⟨some 4, _, _, _, _, _⟩ :: _) _ _); go_must (refine wpList_alloc_zero rfl 31 rfl _ conf_zero ?_); intro g4 w8 hg4 hk8 hw8; have HK48 := kp hk8; have HL8 := kp (HL7.out.trans (hw8.mono hs7)); have HM8 := kp hw8; have HK28 := kp (HK27.out.below hw8 hl27); have hs8 := HL8.out.size; have hs78 := hw8.size; clear hk8 hw8)
    | ((with_reducible show wpList _ _ _ (⟨none, _, _, _, _, _⟩ :: _) _ _); (refine wpList_store_blk rfl 31 (.tmp 4) (.tmp 17) rfl g4 (pcC q1) rfl rfl _ _ HK48.out (by rw [H171.out]; exact conf_size) (by rw [H171.out]; rfl) (conf_ones q1) ?_); intro w9 hk9 hg9 hs9'
       have HK49 := kp hk9; have HL9 := kp (HL8.out.grown hg9 hs8 (fun k e => by cases e; omega)); have HM9 := kp (HM8.out.grown hg9 hs78 (fun k e => by cases e; omega)); have hs9 := HL9.out.size; have hs79 := HM9.out.size
       have HK29 := kp (HK28.out.grown hg9 (fun e => by cases e; omega)); have HK19 := kp (HKa.out.below HL9.out hla)
       have HP9 := kp (pg_more9 (HP7.out.below (HM9.out.mono (by omega))) (show w6.heap.size ≤ w9.heap.size by omega)); have HO9 := kp ((HO7.out.below (HM9.out.mono (by omega))).more (show w6.heap.size ≤ w9.heap.size by omega)); have HO19 := kp ((HOk1.out.below HM9.out).more hs79)
       have hl49 := hk9.lt; have hl29 := HK29.out.lt; have hl19 := HK19.out.lt
       clear hk9 hg9 hs9')
    | ((with_reducible show wpList _ _ _ (⟨some 21, _, _, _, _, _⟩ :: _) _ _); go_must (refine wpList_load_blk_w rfl 31 (.tmp 2) rfl g2 rfl _ (pcC q0) _ HK29.out Try.underlying31 rfl (by rw [H17.out]; exact conf_size) ?_))
    | ((with_reducible show wpList _ _ _ (⟨some 22, _, _, _, _, _⟩ :: _) _ _); go_must (refine wpList_load_blk_w rfl 24 (.tmp 1) rfl g1 rfl _ (pgC p) _ HK19.out Try.underlying24 rfl pg_size ?_))
    | (go_at_call_of 18 (Value.agg (pcC q0).toArray); go_must (refine (sem_enabled w9.heap.size p HF.out q0 w9 HP9.out HO9.out (by rw [HCf0.out]; exact HG0.out) (Nat.le_refl _) 0 hi0.out true (by rw [HCf0.out]; exact HEn0.out)).mono ?_); rintro e w10 ⟨rfl, hb10⟩
       have HLa := kp (HL9.out.trans (hb10.mono hs9)); have HK4a := kp (HK49.out.below hb10 hl49); have HK2a := kp (HK29.out.below hb10 hl29); have HK1a := kp (HK19.out.below hb10 hl19); have HPa2 := kp (HP9.out.below hb10); have HO1a := kp (HO19.out.below hb10); have hsa2 := HLa.out.size; have hs9a := hb10.size; have hl4a := HK4a.out.lt; have hl2a := HK2a.out.lt
       clear hb10)
    | ((with_reducible show wpList _ _ _ (⟨some 26, _, _, _, _, _⟩ :: _) _ _); go_must (refine wpList_load_blk_w rfl 31 (.tmp 4) rfl g4 rfl _ (pcC q1) _ HK4a.out Try.underlying31 rfl (by rw [H171.out]; exact conf_size) ?_))
    | ((with_reducible show wpList _ _ _ (⟨some 27, _, _, _, _, _⟩ :: _) _ _); go_must (refine wpList_load_blk_w rfl 24 (.tmp 1) rfl g1 rfl _ (pgC p) _ HK1a.out Try.underlying24 rfl pg_size ?_))
    | (go_at_call_of 18 (Value.agg (pcC q1).toArray); go_must (refine (sem_enabled w9.heap.size p HF.out q1 w10 HPa2.out HO1a.out (by rw [HCf1.out, ← HSt0.out]; exact M.good_step HF.out HP9.out.row.len HG0.out 0 false) hs9a 0 hi0.out false (by rw [HCf1.out]; exact HEn1.out)).mono ?_); rintro e w11 ⟨rfl, hb11⟩
       have HLb := kp (HLa.out.trans (hb11.mono hsa2))
       have hd1 := (HK4a.out.below hb11 hl4a).cell 1; have hd2 := (HK2a.out.below hb11 hl2a).cell 1
       have e1 : (pcC q1)[1]? = some (.int .i64 1) := by have h := congrArg M.Cf.owners HCf1.out; have h2 : q1.ow = (List.replicate 16 0).set 0 1 := h; unfold pcC; rw [h2]; rfl
       have e2 : (pcC q0)[1]? = some (.int .i64 0) := by have h := congrArg M.Cf.owners HCf0.out; have h2 : q0.ow = List.replicate 16 0 := h; unfold pcC; rw [h2]; rfl
       rw [e1] at hd1; rw [e2] at hd2
       clear hb11 e1 e2))
  go_ret
  exact ⟨rfl, HBa.out.trans (HLb.out.mono hsa)⟩
end Go.Proofs.Ytkblgafackmckaa

/- Arrays of integers compared: one with itself. -/
namespace Go.Proofs.Ytkblgafackmckaa
open Go.RowKit

theorem forIn_same {P : Program} {w : World} {β : Type} (body : Nat → β → Sem (ForInStep β)) (s : β) : ∀ (l : List Nat), (∀ i ∈ l, (body i s).run P w = .ok (.yield s) w) → (forIn l s body).run P w = .ok s w
  | [], _ => by simp
  | i :: r, h => by
    rw [List.forIn_cons, Sem.run_bind, h i (by simp)]
    simp only [Result.andThen_ok]
    exact forIn_same body s r fun j hj => h j (by simp [hj])

theorem run_equal_arr {P : Program} (w : World) (d : Nat) (t e : TypeId) (n : Nat) (k k2 : IntKind) (ht : P.underlying t = some (.array n e)) (he : P.underlying e = some (.int k2)) (hsz : (P.info? e).map (·.size) = some 1) (vs : List Int) (hl : vs.length = n) :
    (Op.equalIn (d + 2) t (.agg (vs.map (Value.int k)).toArray) (.agg (vs.map (Value.int k)).toArray)).run P w = .ok true w := by
  have hagg : (isAgg e).run P w = .ok false w := by
    unfold isAgg
    rw [Sem.run_bind, run_underlying he w]; rfl
  cases hq : P.info? e with
  | none => simp [hq] at hsz
  | some ie =>
    have hs : ie.size = 1 := by simpa [hq] using hsz
    have hso : (sizeOf e).run P w = .ok 1 w := by simp [sizeOf, typeInfo, hq, hs]
    unfold Op.equalIn
    simp only [Sem.run_bind, run_underlying ht w, Result.andThen_ok, hso, Std.Legacy.Range.forIn_eq_forIn_range']
    rw [forIn_same]
    · rfl
    · intro i hi
      have hin : i < vs.length := by
        simp [Std.Legacy.Range.size] at hi
        omega
      simp [part, hagg, hin, run_equalIn_int w d e k k2 _ _ he]
/-- The comparison of such an array with itself. -/
theorem wpList_eql_arr {P : Program} {ops : Array Oper} {rest : List Oper} {o : Oper} {a : Act} {w : World} {Q : Exit → Act → World → Prop} (hgd : o.guard = none) (t u : TypeId) (x y : Operand) (ho : o.op = .binOp .eql t x y u)
    (n : Nat) (e : TypeId) (k k2 : IntKind) (ht : P.underlying t = some (.array n e)) (he : P.underlying e = some (.int k2)) (hsz : (P.info? e).map (·.size) = some 1) (hm : P.eqGuardType P.depth t = false)
    (vs : List Int) (hl : vs.length = n) (hx : a.eval x = .agg (vs.map (Value.int k)).toArray) (hy : a.eval y = .agg (vs.map (Value.int k)).toArray) (h : wpList P ops Q rest (a.put o.dst (.bool true)) w) : wpList P ops Q (o :: rest) a w := by
  refine wpList_plain hgd fun K hK => ?_
  unfold Oper.wp execOp
  simp only [ho, hx, hy, Sem.run_bind, run_eqGuard_agg w .eql t x y _ _ hm, run_eql_struct w t _ _, run_equal_arr w 9998 t e n k k2 ht he hsz vs hl, Result.andThen_ok, Sem.run_pure]
  exact hK _ _ h
/-- The same, where they are asked to be unlike. -/
theorem wpList_neq_arr {P : Program} {ops : Array Oper} {rest : List Oper} {o : Oper} {a : Act} {w : World} {Q : Exit → Act → World → Prop} (hgd : o.guard = none) (t u : TypeId) (x y : Operand) (ho : o.op = .binOp .neq t x y u)
    (n : Nat) (e : TypeId) (k k2 : IntKind) (ht : P.underlying t = some (.array n e)) (he : P.underlying e = some (.int k2)) (hsz : (P.info? e).map (·.size) = some 1) (hm : P.eqGuardType P.depth t = false)
    (vs : List Int) (hl : vs.length = n) (hx : a.eval x = .agg (vs.map (Value.int k)).toArray) (hy : a.eval y = .agg (vs.map (Value.int k)).toArray) (h : wpList P ops Q rest (a.put o.dst (.bool false)) w) : wpList P ops Q (o :: rest) a w := by
  refine wpList_plain hgd fun K hK => ?_
  unfold Oper.wp execOp
  simp only [ho, hx, hy, Sem.run_bind, run_eqGuard_agg w .neq t x y _ _ hm, run_neq_struct w t _ _, run_equal_arr w 9998 t e n k k2 ht he hsz vs hl, Result.andThen_ok, Sem.run_pure]
  exact hK _ _ h
/-- The comparison of such an array with itself, under a guard. -/
theorem wpList_eql_arr_want {P : Program} {ops : Array Oper} {rest : List Oper} {o : Oper} {a : Act} {w : World} {Q : Exit → Act → World → Prop} (hgd : Region.wanted o (yielded ops a.tmps) = true) (t u : TypeId) (x y : Operand) (ho : o.op = .binOp .eql t x y u)
    (n : Nat) (e : TypeId) (k k2 : IntKind) (ht : P.underlying t = some (.array n e)) (he : P.underlying e = some (.int k2)) (hsz : (P.info? e).map (·.size) = some 1) (hm : P.eqGuardType P.depth t = false)
    (vs : List Int) (hl : vs.length = n) (hx : a.eval x = .agg (vs.map (Value.int k)).toArray) (hy : a.eval y = .agg (vs.map (Value.int k)).toArray) (h : wpList P ops Q rest (a.put o.dst (.bool true)) w) : wpList P ops Q (o :: rest) a w := by
  refine BigFrame.wpList_want hgd fun K hK => ?_
  unfold Oper.wp execOp
  simp only [ho, hx, hy, Sem.run_bind, run_eqGuard_agg w .eql t x y _ _ hm, run_eql_struct w t _ _, run_equal_arr w 9998 t e n k k2 ht he hsz vs hl, Result.andThen_ok, Sem.run_pure]
  exact hK _ _ h
end Go.Proofs.Ytkblgafackmckaa

/- Arrays of integers compared, whatever they are. -/
namespace Go.Proofs.Ytkblgafackmckaa
open Go.RowKit

theorem forIn_all {P : Program} {w : World} {β : Type} (body : Nat → β → Sem (ForInStep β)) (s t : β) (f : Nat → Bool) : ∀ (l : List Nat) (b : Bool), l.all f = b → (∀ i ∈ l, (body i s).run P w = .ok (if f i then .yield s else .done t) w) → (forIn l s body).run P w = .ok (if b then s else t) w
  | [], b, hb, _ => by
    have : b = true := by rw [← hb]; rfl
    subst this
    simp
  | i :: r, b, hb, h => by
    rw [List.forIn_cons, Sem.run_bind, h i (by simp)]
    simp only [Result.andThen_ok]
    have hb2 : (f i && r.all f) = b := by rw [← hb]; rfl
    by_cases hf : f i = true
    · rw [if_pos hf]
      exact forIn_all body s t f r b (by rw [← hb2, hf]; rfl) fun j hj => h j (by simp [hj])
    · rw [if_neg hf]
      have : b = false := by rw [← hb2, Bool.eq_false_iff.2 hf]; rfl
      subst this
      simp
theorem all_range_eq (vs us : List Int) (n : Nat) (hv : vs.length = n) (hu : us.length = n) : ((List.range' 0 n).all fun i => vs.getD i 0 == us.getD i 0) = decide (vs = us) := by
  rw [Bool.eq_iff_iff, List.all_eq_true, decide_eq_true_eq]
  constructor
  · intro h
    apply List.ext_getElem (by omega)
    intro i h1 h2
    have := h i (by simp; omega)
    rw [beq_iff_eq, List.getD_eq_getElem?_getD, List.getElem?_eq_getElem h1, List.getD_eq_getElem?_getD, List.getElem?_eq_getElem h2] at this
    exact this
  · rintro rfl i _
    simp
theorem run_equal_arr2 {P : Program} (w : World) (d : Nat) (t e : TypeId) (n : Nat) (k k2 : IntKind) (ht : P.underlying t = some (.array n e)) (he : P.underlying e = some (.int k2)) (hsz : (P.info? e).map (·.size) = some 1) (vs us : List Int) (hl : vs.length = n) (hl2 : us.length = n) :
    (Op.equalIn (d + 2) t (.agg (vs.map (Value.int k)).toArray) (.agg (us.map (Value.int k)).toArray)).run P w = .ok (decide (vs = us)) w := by
  have hagg : (isAgg e).run P w = .ok false w := by
    unfold isAgg
    rw [Sem.run_bind, run_underlying he w]; rfl
  cases hq : P.info? e with
  | none => simp [hq] at hsz
  | some ie =>
    have hs : ie.size = 1 := by simpa [hq] using hsz
    have hso : (sizeOf e).run P w = .ok 1 w := by simp [sizeOf, typeInfo, hq, hs]
    unfold Op.equalIn
    simp only [Sem.run_bind, run_underlying ht w, Result.andThen_ok, hso, Std.Legacy.Range.forIn_eq_forIn_range']
    rw [forIn_all _ _ (some false, PUnit.unit) (fun i => vs.getD i 0 == us.getD i 0) _ (decide (vs = us)) (by rw [← all_range_eq vs us n hl hl2]; simp [Std.Legacy.Range.size])]
    · by_cases hvu : vs = us
      · rw [decide_eq_true hvu]; rfl
      · rw [decide_eq_false hvu]; rfl
    · intro i hi
      have hin : i < n := by
        simp [Std.Legacy.Range.size] at hi
        omega
      have h1 : i < vs.length := by omega
      have h2 : i < us.length := by omega
      simp [part, hagg, h1, h2, run_equalIn_int w d e k k2 _ _ he]
      split <;> rfl
/-- The comparison of such arrays. -/
theorem wpList_eql_arr2 {P : Program} {ops : Array Oper} {rest : List Oper} {o : Oper} {a : Act} {w : World} {Q : Exit → Act → World → Prop} (hgd : Region.wanted o (yielded ops a.tmps) = true) (t u : TypeId) (x y : Operand) (ho : o.op = .binOp .eql t x y u)
    (n : Nat) (e : TypeId) (k k2 : IntKind) (ht : P.underlying t = some (.array n e)) (he : P.underlying e = some (.int k2)) (hsz : (P.info? e).map (·.size) = some 1) (hm : P.eqGuardType P.depth t = false)
    (vs us : List Int) (hl : vs.length = n) (hl2 : us.length = n) (hx : a.eval x = .agg (vs.map (Value.int k)).toArray) (hy : a.eval y = .agg (us.map (Value.int k)).toArray) (b : Bool) (hb : decide (vs = us) = b) (h : wpList P ops Q rest (a.put o.dst (.bool b)) w) : wpList P ops Q (o :: rest) a w := by
  refine BigFrame.wpList_want hgd fun K hK => ?_
  subst hb
  unfold Oper.wp execOp
  simp only [ho, hx, hy, Sem.run_bind, run_eqGuard_agg w .eql t x y _ _ hm, run_eql_struct w t _ _, run_equal_arr2 w 9998 t e n k k2 ht he hsz vs us hl hl2, Result.andThen_ok, Sem.run_pure]
  exact hK _ _ h
theorem wpList_neq_arr2 {P : Program} {ops : Array Oper} {rest : List Oper} {o : Oper} {a : Act} {w : World} {Q : Exit → Act → World → Prop} (hgd : Region.wanted o (yielded ops a.tmps) = true) (t u : TypeId) (x y : Operand) (ho : o.op = .binOp .neq t x y u)
    (n : Nat) (e : TypeId) (k k2 : IntKind) (ht : P.underlying t = some (.array n e)) (he : P.underlying e = some (.int k2)) (hsz : (P.info? e).map (·.size) = some 1) (hm : P.eqGuardType P.depth t = false)
    (vs us : List Int) (hl : vs.length = n) (hl2 : us.length = n) (hx : a.eval x = .agg (vs.map (Value.int k)).toArray) (hy : a.eval y = .agg (us.map (Value.int k)).toArray) (b : Bool) (hb : (!decide (vs = us)) = b) (h : wpList P ops Q rest (a.put o.dst (.bool b)) w) : wpList P ops Q (o :: rest) a w := by
  refine BigFrame.wpList_want hgd fun K hK => ?_
  subst hb
  unfold Oper.wp execOp
  simp only [ho, hx, hy, Sem.run_bind, run_eqGuard_agg w .neq t x y _ _ hm, run_neq_struct w t _ _, run_equal_arr2 w 9998 t e n k k2 ht he hsz vs us hl hl2, Result.andThen_ok, Sem.run_pure]
  exact hK _ _ h
end Go.Proofs.Ytkblgafackmckaa
