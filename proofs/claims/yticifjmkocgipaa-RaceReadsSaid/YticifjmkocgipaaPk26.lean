/- SemStart, Want, SemPickIn, SemLaw1, Equal, in one text. -/
import Derived.Test.YticifjmkocgipaaPk22
import Derived.Test.YticifjmkocgipaaPk10
import Derived.Test.YticifjmkocgipaaPk1
import Derived.BigFrame
import Derived.Test.YticifjmkocgipaaPk3
import Derived.Test.YticifjmkocgipaaPk2
import Derived.Test.YticifjmkocgipaaPk25
import Derived.Laws.StructEq
/- The program's interpreter, walked: Start. -/
namespace Go.Proofs.Yticifjmkocgipaa
open Go.RowKit

theorem built_conf0 : Try.prog.built 31 [] = some (Value.slice none 0 0 :: zeros 16).toArray := by kernel_rfl

theorem conf0_ones (A : Option Addr) (n c : Nat) : ∀ u ∈ Value.slice A n c :: zeros 16, u.oneCell' = true := by
  intro u hu
  rcases List.mem_cons.1 hu with rfl | hu
  · rfl
  · rw [List.eq_of_mem_replicate hu]; rfl
/-- No config. -/
def pcNone : Pc := ⟨none, 0, 0, [], List.replicate 16 0⟩
theorem pcNone_cells : pcC pcNone = Value.slice none 0 0 :: zeros 16 := by unfold pcC pcNone; rw [zeros_ow]
/-- What Start hands back. -/
def StartPost (w : World) (c : Nat) : Ending → World → Prop := fun e w' => ∃ q, e = .returned (.tuple #[pcA q, .int .i64 (c : Int)]) ∧ q.Ok w' w'.heap.size ∧ (c = 0 → q.cf = M.start) ∧ (c ≠ 0 → q.len = 0) ∧ q.ow.length = 16 ∧ Below w.heap.size w w'

set_option maxRecDepth 100000 in
set_option maxHeartbeats 1600000 in
theorem sem_start (B : Nat) (p : Pg) (w : World) (hp : p.Ok w B) (hB : B ≤ w.heap.size) (a b : Int) (c : Nat) (hc : Q.check p = (a, b, c)) :
    Calls Try.prog 26 #[pgA p] w (StartPost w c) := by
  unfold StartPost
  have HP := kp hp; have HC := kp hc
  clear hp hc
  rw [pgA_is]
  by_cases hz : c = 0
  · have HZ : Kept ((c : Int) = 0) := kp (by omega)
    have hb0 : ((c : Int) != 0) = false := by rw [HZ.out]; rfl
    have HCz := kp hz
    clear hz
    go_enter Try.func26, Try.ntmps26
    go_wp2_with (first
      | ((with_reducible refine wpList_box_agg rfl 24 (.tmp 0) rfl (pgC p) rfl ?_); intro g1 w1 hg1 hk1 hw1; have HK1 := kp hk1; have HW1 := kp hw1; have hs1 := hw1.size; have hl1 := hk1.lt; clear hk1 hw1)
      | ((with_reducible show wpList _ _ _ (⟨some 2, _, _, _, _, _⟩ :: _) _ _); go_must (refine wpList_alloc_zero rfl 31 rfl _ conf_zero ?_); intro g2 w2 hg2 hk2 hw2; have HK2 := kp hk2; have HK12 := kp (HK1.out.below hw2 hl1); have HW2 := kp (HW1.out.trans (hw2.mono hs1)); have hs2 := HW2.out.size; have hl2 := hk2.lt; clear hk2 hw2)
      | ((with_reducible show wpList _ _ _ (⟨some 8, _, _, _, _, _⟩ :: _) _ _); go_must (refine wpList_load_blk rfl 24 (.tmp 1) rfl g1 rfl _ (pgC p) _ HK12.out Try.underlying24 rfl pg_size ?_))
      | (go_at_call 46; go_must (refine (prog_check_any B p w2 (HP.out.below (HW2.out.mono hB)) (by omega) a b c HC.out).mono ?_); rintro e w3 ⟨rfl, hb3⟩; have HW3 := kp (HW2.out.trans (hb3.mono hs2)); have HK23 := kp (HK2.out.below hb3 hl2); have hs3 := HW3.out.size; have hl23 := HK23.out.lt; clear hb3)
      | (go_at_call 47; go_must (refine (sem_begun 0 w3).mono ?_); rintro e w4 ⟨g4, rfl, hown4, hg4, hb4⟩; have HOw4 := kp hown4; have HW4 := kp (HW3.out.trans (hb4.mono hs3)); have HK24 := kp (HK23.out.below hb4 hl23); have hs4 := HW4.out.size; have hs34 := hb4.size; have hl24 := HK24.out.lt; have hl44 := (hown4.block g4 rfl).2; have HNe : Kept (g4 ≠ g2 ∧ w.heap.size ≤ g2 ∧ g2 < w4.heap.size) := kp (by omega); clear hown4 hb4)
      | ((with_reducible show wpList _ _ _ (⟨some 18, _, _, _, _, _⟩ :: _) _ _); go_must (refine wpList_buildSlice_one rfl 28 91 (.tmp 17) rfl 9 Try.underlying28 thread_one (by omega) (by omega) _ (Value.slice (some ⟨g4, 0, none⟩) 1 1 :: zeros 8) rfl rfl rfl ?_); intro g5 w5 hg5 hk5 hb5; have HK5 := kp hk5; have HW5 := kp (HW4.out.trans (hb5.mono hs4)); have HK25 := kp (HK24.out.below hb5 hl24); have HOw5 := kp (HOw4.out.below hb5 (Nat.le_refl _)); have hs5 := HW5.out.size; have HNe5 : Kept (g5 ≠ g2) := kp (by have := HNe.out.2.2; omega); clear hk5 hb5)
      | ((with_reducible show wpList _ _ _ (⟨some 19, _, _, _, _, _⟩ :: _) _ _); go_must (refine wpList_build_1 rfl 31 0 (.tmp 18) rfl (.slice (some ⟨g5, 0, none⟩) 1 1) rfl (Value.slice (some ⟨g5, 0, none⟩) 1 1 :: zeros 16) (built_conf (some ⟨g5, 0, none⟩) 1 1) ?_))
      | ((with_reducible show wpList _ _ _ (⟨none, _, _, _, _, _⟩ :: _) _ _); go_must (refine wpList_store_blk rfl 31 (.tmp 2) (.tmp 19) rfl g2 (Value.slice (some ⟨g5, 0, none⟩) 1 1 :: zeros 16) rfl rfl _ _ HK25.out conf_size rfl (conf0_ones _ _ _) ?_); intro w6 hk6 hg6 hs6
         have HK6 := kp hk6; have HK56 := kp (HK5.out.grown hg6 (fun e => by cases e; exact HNe5.out rfl)); have HOw6 := kp (HOw5.out.far hg6 (.inr (fun e => by cases e; exact HNe.out.1 rfl))); have HW6 := kp (HW5.out.grown hg6 HW5.out.size (fun k e => by cases e; exact HNe.out.2.1)); clear hk6 hg6 hs6))
    have HRow : Kept (OwnR 9 tvV w6 0 91 (.slice (some ⟨g5, 0, none⟩) 1 1) [newT 0 g4]) := kp (OwnR.of_blk HK56.out (Nat.zero_le _) rfl (Nat.le_refl _) (by unfold maxLen; omega) rfl rfl)
    have HOk : Kept (Pc.Ok ⟨some ⟨g5, 0, none⟩, 1, 1, [newT 0 g4], List.replicate 16 0⟩ w6 w6.heap.size) := kp ⟨HRow.out.recs, Nat.le_refl _, by show 1 ≤ maxLen; unfold maxLen; omega, fun x hx => by
      have e := List.mem_singleton.1 hx
      subst e
      exact ⟨HOw6.out.recs, Nat.le_refl _, by show 1 ≤ maxLen; unfold maxLen; omega⟩⟩
    have HKf : Kept (Blk w6 g2 31 (pcC ⟨some ⟨g5, 0, none⟩, 1, 1, [newT 0 g4], List.replicate 16 0⟩)) := kp (by unfold pcC; rw [← zeros_ow]; exact HK6.out)
    go_wp2_with ((with_reducible show bodyPost _ _ _ _ _ _); exact bodyPost_ret (results_cell1 (P := Try.prog) (fn := Try.f26) rfl _ _ g2 31 _ _ _ rfl rfl HKf.out Try.underlying31 rfl conf_size) rfl ⟨⟨some ⟨g5, 0, none⟩, 1, 1, [newT 0 g4], List.replicate 16 0⟩, by rw [HZ.out]; rfl, HOk.out, fun _ => rfl, fun h => absurd HCz.out h, rfl, HW6.out⟩)
  · have hb0 : ((c : Int) != 0) = true := by simpa using hz
    have HZ := kp hz
    clear hz
    go_enter Try.func26, Try.ntmps26
    go_wp2_with (first
      | ((with_reducible refine wpList_box_agg rfl 24 (.tmp 0) rfl (pgC p) rfl ?_); intro g1 w1 hg1 hk1 hw1; have HK1 := kp hk1; have HW1 := kp hw1; have hs1 := hw1.size; have hl1 := hk1.lt; clear hk1 hw1)
      | ((with_reducible show wpList _ _ _ (⟨some 2, _, _, _, _, _⟩ :: _) _ _); go_must (refine wpList_alloc_zero rfl 31 rfl _ conf_zero ?_); intro g2 w2 hg2 hk2 hw2; have HK2 := kp hk2; have HK12 := kp (HK1.out.below hw2 hl1); have HW2 := kp (HW1.out.trans (hw2.mono hs1)); have hs2 := HW2.out.size; have hl2 := hk2.lt; clear hk2 hw2)
      | ((with_reducible show wpList _ _ _ (⟨some 8, _, _, _, _, _⟩ :: _) _ _); go_must (refine wpList_load_blk rfl 24 (.tmp 1) rfl g1 rfl _ (pgC p) _ HK12.out Try.underlying24 rfl pg_size ?_))
      | (go_at_call 46; go_must (refine (prog_check_any B p w2 (HP.out.below (HW2.out.mono hB)) (by omega) a b c HC.out).mono ?_); rintro e w3 ⟨rfl, hb3⟩; have HW3 := kp (HW2.out.trans (hb3.mono hs2)); have HK23 := kp (HK2.out.below hb3 hl2); have hs3 := HW3.out.size; have hl23 := HK23.out.lt; clear hb3)
      | ((with_reducible show wpList _ _ _ (⟨some 15, _, _, _, _, _⟩ :: _) _ _); go_must (refine wpList_build_is rfl 31 #[] rfl [] (by simp) (Value.slice none 0 0 :: zeros 16) built_conf0 ?_))
      | ((with_reducible show wpList _ _ _ (⟨none, _, _, _, _, _⟩ :: _) _ _); go_must (refine wpList_store_blk rfl 31 (.tmp 2) (.tmp 15) rfl g2 (Value.slice none 0 0 :: zeros 16) rfl rfl _ _ HK23.out conf_size rfl (conf0_ones _ _ _) ?_); intro w6 hk6 hg6 hs6
         have HK6 := kp hk6; have HW6 := kp (HW3.out.grown hg6 hs3 (fun k e => by cases e; omega)); clear hk6 hg6 hs6))
    have HKf : Kept (Blk w6 g2 31 (pcC pcNone)) := kp (by rw [pcNone_cells]; exact HK6.out)
    have HOk : Kept (pcNone.Ok w6 w6.heap.size) := kp ⟨⟨rfl, fun h => absurd h (by simp [pcNone])⟩, Nat.le_refl _, by simp [pcNone, maxLen], by simp [pcNone]⟩
    go_wp2_with ((with_reducible show bodyPost _ _ _ _ _ _); exact bodyPost_ret (results_cell1 (P := Try.prog) (fn := Try.f26) rfl _ _ g2 31 _ _ _ rfl rfl HKf.out Try.underlying31 rfl conf_size) rfl ⟨pcNone, rfl, HOk.out, fun h => absurd h HZ.out, fun _ => rfl, rfl, HW6.out⟩)
end Go.Proofs.Yticifjmkocgipaa

/- Blocks read whole, under a guard. -/
namespace Go.Proofs.Yticifjmkocgipaa
open Go.RowKit

theorem wpList_load_blk_w {P : Program} {ops : Array Oper} {rest : List Oper} {o : Oper} {a : Act} {w : World} {Q : Exit → Act → World → Prop} (hgd : Region.wanted o (yielded ops a.tmps) = true) (ty : TypeId) (x : Operand) (ho : o.op = .load ty x)
    (g : Nat) (hx : a.eval x = .pointer (some ⟨g, 0, none⟩)) (t : TypeId) (cs : List Value) (d : TypeDesc) (hg : Blk w g t cs)
    (hu : P.underlying ty = some d) (hd : (match d with | .struct _ | .array _ _ => true | _ => false) = true) (hi : (P.info? ty).map (·.size) = some cs.length)
    (h : wpList P ops Q rest (a.put o.dst (.agg cs.toArray)) w) : wpList P ops Q (o :: rest) a w := by
  exact BigFrame.wpList_want hgd fun _ hK => wp_load_row ty x ho g hx t cs.toArray (0, 0) d hg hu hd (by simpa using hi) (hK _ _ h)
theorem wpList_load_mid_w {P : Program} {ops : Array Oper} {rest : List Oper} {o : Oper} {a : Act} {w : World} {Q : Exit → Act → World → Prop} (hgd : Region.wanted o (yielded ops a.tmps) = true) (ty : TypeId) (x : Operand) (ho : o.op = .load ty x)
    (b c : Nat) (hx : a.eval x = .pointer (some ⟨b, c, none⟩)) (cs : List Value) (d : TypeDesc) (hc : w.rangeAt b c cs)
    (hu : P.underlying ty = some d) (hd : d.isRow = true) (hi : (P.info? ty).map (·.size) = some cs.length)
    (h : wpList P ops Q rest (a.put o.dst (.agg cs.toArray)) w) : wpList P ops Q (o :: rest) a w :=
  BigFrame.wpList_want hgd fun _ hK => wp_load_mid ty x ho b c hx cs d hc hu hd hi (hK _ _ h)
theorem wpList_load_at_w {P : Program} {ops : Array Oper} {rest : List Oper} {o : Oper} {a : Act} {w : World} {Q : Exit → Act → World → Prop} (hgd : Region.wanted o (yielded ops a.tmps) = true) (ty : TypeId) (x : Operand) (ho : o.op = .load ty x)
    (ad : Addr) (hx : a.eval x = .pointer (some ad)) (cs : List Value) (d : TypeDesc) (hc : ∀ j v, cs[j]? = some v → w.cell? (ad.add j) = some v)
    (hu : P.underlying ty = some d) (hd : d.isRow = true) (hi : (P.info? ty).map (·.size) = some cs.length)
    (h : wpList P ops Q rest (a.put o.dst (.agg cs.toArray)) w) : wpList P ops Q (o :: rest) a w := by
  refine BigFrame.wpList_want hgd fun K hK => ?_
  have hl : (loadCells ad cs.length).run P w = .ok cs.toArray w := run_loadCells_list (P := P) w ad cs hc
  have hrun : (loadVar ty ad).run P w = .ok (.agg cs.toArray) w := by
    cases hq : P.info? ty with
    | none => simp [hq] at hi
    | some i =>
      have hs : i.size = cs.length := by simpa [hq] using hi
      have hagg : (isAgg ty).run P w = .ok true w := by
        unfold isAgg
        rw [Sem.run_bind, run_underlying hu w]
        cases d <;> simp_all
      simp [loadVar, Sem.run_bind, hagg, sizeOf, typeInfo, hq, hs, hl]
  unfold Oper.wp execOp
  simp only [ho, hx, Instr.loadAt, Instr.sureAddr, Sem.run_bind, Sem.run_pure, Result.andThen_ok, hrun]
  exact hK _ _ h
end Go.Proofs.Yticifjmkocgipaa

/- Picks in memory. -/
namespace Go.Proofs.Yticifjmkocgipaa
open Go.RowKit

/-- A pick, as cells hold it. -/
def pkV (x : Int × Bool) : Nat → Value
  | 0 => .int .i64 x.1
  | _ => .bool x.2
/-- The slice reads as these picks. -/
def Picks (w : World) (B : Nat) (A : Option Addr) (n : Nat) (l : List (Int × Bool)) : Prop := Recs 2 pkV w B A n l ∧ ∀ x ∈ l, I64 x.1
theorem Picks.keep {w w' : World} {B : Nat} {A : Option Addr} {n : Nat} {l : List (Int × Bool)} (h : Picks w B A n l) (hk : ∀ p : Addr, p.block < B → w'.cell? p = w.cell? p) : Picks w' B A n l := ⟨h.1.keep hk, h.2⟩
end Go.Proofs.Yticifjmkocgipaa

/- What the statements of sem begin with, walked: awake; picks. -/
namespace Go.Proofs.Yticifjmkocgipaa
open Go.RowKit

/-- Behind the first picks. -/
def runTo (p : Pg) (l : List (Int × Bool)) (i : Nat) : M.Cf := (l.take i).foldl (fun c x => M.step p c x.1 x.2) M.start
theorem runTo_zero (p : Pg) (l : List (Int × Bool)) : runTo p l 0 = M.start := rfl
theorem runTo_succ (p : Pg) (l : List (Int × Bool)) (i : Nat) (x : Int × Bool) (hx : l[i]? = some x) : runTo p l (i + 1) = M.step p (runTo p l i) x.1 x.2 := by
  unfold runTo
  rw [List.take_add_one, hx, List.foldl_append]; rfl
theorem runTo_good {p : Pg} (hf : Fine p) (hl : p.fns.length = p.len) (l : List (Int × Bool)) : ∀ i, M.Good p (runTo p l i)
  | 0 => M.good_start hf
  | i + 1 => by
    cases hx : l[i]? with
    | some x => rw [runTo_succ p l i x hx]; exact M.good_step hf hl (runTo_good hf hl l i) _ _
    | none =>
      have h := runTo_good hf hl l i
      unfold runTo at h ⊢
      rw [List.take_add_one, hx, Option.toList, List.append_nil]; exact h
/-- A program of one function, a Lock. -/
def pgLock (g g2 : Nat) : Pg := ⟨0, 1, 0, some ⟨g2, 0, none⟩, 1, 1, [⟨some ⟨g, 0, none⟩, 1, 1, [⟨3, 0, 0, 0⟩]⟩]⟩
theorem pgLock_ok (w : World) (g g2 : Nat) (h1 : Blk w g 56 (ndC ⟨3, 0, 0, 0⟩)) (h2 : Blk w g2 67 [.slice (some ⟨g, 0, none⟩) 1 1]) : (pgLock g g2).Ok w w.heap.size := by
  have h := pgOne_ok ⟨3, 0, 0, 0⟩ (nd_ok 3 (by unfold I64; omega)) w g g2 h1 h2
  exact ⟨h.g, by unfold I64; simp [pgLock], h.s, h.row, h.fns, h.lc, h.cm, h.nil⟩
theorem check_lock (g g2 : Nat) : Q.check (pgLock g g2) = (0, 0, 0) := by
  refine Q.check_fine (by constructor <;> simp [pgLock]) ?_ ?_
  · rintro j hj ⟨fn, hfn, hb⟩
    have hj0 : j = 0 := by simpa [pgLock] using hj
    subst hj0
    have hf : fn = ⟨some ⟨g, 0, none⟩, 1, 1, [⟨3, 0, 0, 0⟩]⟩ := by simpa [pgLock] using hfn.symm
    subst hf
    refine hb ?_
    rw [Q.fault_none _ _ (by simp) (by simp) ?_]
    rintro i hi ⟨nd, hnd, hm⟩
    have hi0 : i = 0 := by simpa using hi
    subst hi0
    have : nd = ⟨3, 0, 0, 0⟩ := by simpa using hnd.symm
    subst this
    have hm' : Q.may 0 1 0 1 ⟨3, 0, 0, 0⟩ 1 = false := hm
    exact absurd hm' (by decide)
  · rintro j hj ⟨i, fn, nd, hfn, hnd, h7, _⟩
    have hj0 : j = 0 := by simpa [pgLock] using hj
    subst hj0
    have hf : fn = ⟨some ⟨g, 0, none⟩, 1, 1, [⟨3, 0, 0, 0⟩]⟩ := by simpa [pgLock] using hfn.symm
    subst hf
    have hm := List.mem_of_getElem? hnd
    rw [List.mem_singleton] at hm
    subst hm
    cases h7
theorem lock_first (g g2 : Nat) : M.enabled (pgLock g g2) M.start 0 = true := by rfl
theorem lock_step (g g2 : Nat) : M.step (pgLock g g2) M.start 0 false = ⟨[⟨[(0, 0)], List.replicate 8 0⟩], (List.replicate 16 0).set 0 1⟩ := by rfl
theorem lock_then (g g2 : Nat) : M.enabled (pgLock g g2) ⟨[⟨[(0, 0)], List.replicate 8 0⟩], (List.replicate 16 0).set 0 1⟩ 0 = false := by rfl

theorem pg_more9 {p : Pg} {w : World} {B B' : Nat} (h : p.Ok w B) (hB : B ≤ B') : p.Ok w B' := ⟨h.g, h.l, h.s, h.row.more hB, fun f hf => ⟨⟨(h.fns f hf).nodes.1.more hB, (h.fns f hf).nodes.2⟩, (h.fns f hf).lc, (h.fns f hf).cm, (h.fns f hf).nil⟩, h.lc, h.cm, h.nil⟩
/-- The world in which it was built. -/
def lockW (w : World) : World := (w.alloc (.cells #[.int .i64 3, .int .i64 0, .int .i64 0, .int .i64 0] 56)).alloc (.cells #[.slice (some ⟨w.heap.size, 0, none⟩) 1 1] 67)
theorem lockW_ok (w : World) : (pgLock w.heap.size (w.heap.size + 1)).Ok (lockW w) (lockW w).heap.size :=
  pgLock_ok _ _ _ ((Blk.newA w 56 _ (ndC ⟨3, 0, 0, 0⟩) rfl).alloc _) (Blk.newAt rfl (by simp))
theorem lockW_below (w : World) : Below w.heap.size w (lockW w) := ((Below.refl _ _).alloc (Nat.le_refl _) _).alloc (by simp) _
end Go.Proofs.Yticifjmkocgipaa

/- Arrays of integers compared: one with itself. -/
namespace Go.Proofs.Yticifjmkocgipaa
open Go.RowKit

theorem forIn_same {P : Program} {w : World} {β : Type} (body : Nat → β → Sem (ForInStep β)) (s : β) : ∀ (l : List Nat), (∀ i ∈ l, (body i s).run P w = .ok (.yield s) w) → (forIn l s body).run P w = .ok s w
  | [], _ => by simp
  | i :: r, h => by
    rw [List.forIn_cons, Sem.run_bind, h i (by simp)]
    simp only [Result.andThen_ok]
    exact forIn_same body s r fun j hj => h j (by simp [hj])

theorem run_equal_arr {P : Program} (w : World) (d : Nat) (t e : TypeId) (n : Nat) (k k2 : IntKind) (ht : P.underlying t = some (.array n e)) (he : P.underlying e = some (.int k2)) (hsz : (P.info? e).map (·.size) = some 1) (vs : List Int) (hl : vs.length = n) :
    (Op.equalIn (d + 2) t (.agg (vs.map (Value.int k)).toArray) (.agg (vs.map (Value.int k)).toArray)).run P w = .ok true w := by
  have hagg : (isAgg e).run P w = .ok false w := by
    unfold isAgg
    rw [Sem.run_bind, run_underlying he w]; rfl
  cases hq : P.info? e with
  | none => simp [hq] at hsz
  | some ie =>
    have hs : ie.size = 1 := by simpa [hq] using hsz
    have hso : (sizeOf e).run P w = .ok 1 w := by simp [sizeOf, typeInfo, hq, hs]
    unfold Op.equalIn
    simp only [Sem.run_bind, run_underlying ht w, Result.andThen_ok, hso, Std.Legacy.Range.forIn_eq_forIn_range']
    rw [forIn_same]
    · rfl
    · intro i hi
      have hin : i < vs.length := by
        simp [Std.Legacy.Range.size] at hi
        omega
      simp [part, hagg, hin, run_equalIn_int w d e k k2 _ _ he]
/-- The comparison of such an array with itself. -/
theorem wpList_eql_arr {P : Program} {ops : Array Oper} {rest : List Oper} {o : Oper} {a : Act} {w : World} {Q : Exit → Act → World → Prop} (hgd : o.guard = none) (t u : TypeId) (x y : Operand) (ho : o.op = .binOp .eql t x y u)
    (n : Nat) (e : TypeId) (k k2 : IntKind) (ht : P.underlying t = some (.array n e)) (he : P.underlying e = some (.int k2)) (hsz : (P.info? e).map (·.size) = some 1) (hm : P.eqGuardType P.depth t = false)
    (vs : List Int) (hl : vs.length = n) (hx : a.eval x = .agg (vs.map (Value.int k)).toArray) (hy : a.eval y = .agg (vs.map (Value.int k)).toArray) (h : wpList P ops Q rest (a.put o.dst (.bool true)) w) : wpList P ops Q (o :: rest) a w := by
  refine wpList_plain hgd fun K hK => ?_
  unfold Oper.wp execOp
  simp only [ho, hx, hy, Sem.run_bind, run_eqGuard_agg w .eql t x y _ _ hm, run_eql_struct w t _ _, run_equal_arr w 9998 t e n k k2 ht he hsz vs hl, Result.andThen_ok, Sem.run_pure]
  exact hK _ _ h
/-- The same, where they are asked to be unlike. -/
theorem wpList_neq_arr {P : Program} {ops : Array Oper} {rest : List Oper} {o : Oper} {a : Act} {w : World} {Q : Exit → Act → World → Prop} (hgd : o.guard = none) (t u : TypeId) (x y : Operand) (ho : o.op = .binOp .neq t x y u)
    (n : Nat) (e : TypeId) (k k2 : IntKind) (ht : P.underlying t = some (.array n e)) (he : P.underlying e = some (.int k2)) (hsz : (P.info? e).map (·.size) = some 1) (hm : P.eqGuardType P.depth t = false)
    (vs : List Int) (hl : vs.length = n) (hx : a.eval x = .agg (vs.map (Value.int k)).toArray) (hy : a.eval y = .agg (vs.map (Value.int k)).toArray) (h : wpList P ops Q rest (a.put o.dst (.bool false)) w) : wpList P ops Q (o :: rest) a w := by
  refine wpList_plain hgd fun K hK => ?_
  unfold Oper.wp execOp
  simp only [ho, hx, hy, Sem.run_bind, run_eqGuard_agg w .neq t x y _ _ hm, run_neq_struct w t _ _, run_equal_arr w 9998 t e n k k2 ht he hsz vs hl, Result.andThen_ok, Sem.run_pure]
  exact hK _ _ h
/-- The comparison of such an array with itself, under a guard. -/
theorem wpList_eql_arr_want {P : Program} {ops : Array Oper} {rest : List Oper} {o : Oper} {a : Act} {w : World} {Q : Exit → Act → World → Prop} (hgd : Region.wanted o (yielded ops a.tmps) = true) (t u : TypeId) (x y : Operand) (ho : o.op = .binOp .eql t x y u)
    (n : Nat) (e : TypeId) (k k2 : IntKind) (ht : P.underlying t = some (.array n e)) (he : P.underlying e = some (.int k2)) (hsz : (P.info? e).map (·.size) = some 1) (hm : P.eqGuardType P.depth t = false)
    (vs : List Int) (hl : vs.length = n) (hx : a.eval x = .agg (vs.map (Value.int k)).toArray) (hy : a.eval y = .agg (vs.map (Value.int k)).toArray) (h : wpList P ops Q rest (a.put o.dst (.bool true)) w) : wpList P ops Q (o :: rest) a w := by
  refine BigFrame.wpList_want hgd fun K hK => ?_
  unfold Oper.wp execOp
  simp only [ho, hx, hy, Sem.run_bind, run_eqGuard_agg w .eql t x y _ _ hm, run_eql_struct w t _ _, run_equal_arr w 9998 t e n k k2 ht he hsz vs hl, Result.andThen_ok, Sem.run_pure]
  exact hK _ _ h
end Go.Proofs.Yticifjmkocgipaa
