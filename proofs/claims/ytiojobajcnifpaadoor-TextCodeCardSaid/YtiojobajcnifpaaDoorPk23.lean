/- TextW1, TextW2, TextMath2, in one text. -/
import Derived.Test.YtiojobajcnifpaaDoorPk19
import Derived.Test.YtiojobajcnifpaaDoorPk16
import Derived.Lib.FrozenHead2
import Derived.Lib.OthersKept
import Derived.Test.YtiojobajcnifpaaDoorPk17
import Derived.Test.YtiojobajcnifpaaDoorPk15
/- What is written into a strings.Builder, walked: copyCheck, WriteString. -/
namespace Go.Proofs.YtiojobajcnifpaaDoor
open Go.RowKit

theorem sb_size : (Tryd.prog.info? 63).map (·.size) = some 2 := by kernel_rfl
theorem sb_lies : liesAt Tryd.prog Tryd.prog.depth 63 (2 / Tryd.prog.cellsOf 63) 0 63 1 = true := by kernel_rfl
theorem sb_byte : (Tryd.prog.info? 5).map (fun i => (i.zero, i.size, i.bytes)) = some (some (.int .u8 0), 1, 1) := by kernel_rfl

set_option maxHeartbeats 1000000 in
set_option maxRecDepth 100000 in
theorem sb_check_used (b : Nat) (w : World) (h0 : w.cell? ⟨b, 0, none⟩ = some (.pointer (some ⟨b, 0, none⟩))) :
    Calls Tryd.prog 58 #[.pointer (some ⟨b, 0, none⟩)] w fun e w' => e = .returned (.tuple #[]) ∧ w' = w := by
  obtain ⟨j, hj, _⟩ := Option.map_eq_some_iff.1 sb_size
  go_enter Tryd.func58, Tryd.ntmps58
  go_wp2
  rw [Lib.run_neq_ptr_same w _ Tryd.underlying61 hj]
  go_wp2
  go_end0
  exact ⟨rfl, rfl⟩

set_option maxHeartbeats 1000000 in
set_option maxRecDepth 100000 in
theorem sb_check_fresh (b : Nat) (w : World) (h0 : w.cell? ⟨b, 0, none⟩ = some (.pointer none)) (hsh : w.shape? b = some (63, 2)) (hfz : w.frozen? ⟨b, 0, none⟩ = false) :
    Calls Tryd.prog 58 #[.pointer (some ⟨b, 0, none⟩)] w fun e w' => e = .returned (.tuple #[]) ∧ w' = w.setCell ⟨b, 0, none⟩ (.pointer (some ⟨b, 0, none⟩)) := by
  obtain ⟨j, hj, hjs⟩ := Option.map_eq_some_iff.1 sb_size
  go_enter Tryd.func58, Tryd.ntmps58
  go_wp2
  rw [Lib.run_to_unsafe w ⟨b, 0, none⟩ Tryd.underlying61 Tryd.underlying117 hj (by rw [hjs]; decide) hsh (Nat.zero_lt_succ 1)]
  simp only [Result.andThen]
  rw [Oper.upon_value]
  go_wp2
  rw [run_callFunc_extern Tryd.func67 (by kernel_rfl) (by kernel_rfl) (by kernel_rfl) (e := Extern.AbiNoEscape.same) (by kernel_rfl)]
  rw [Lib.run_noEscape]
  simp only [Result.andThen]
  rw [Oper.upon_value]
  go_wp2
  rw [Lib.run_from_unsafe w ⟨b, 0, none⟩ Tryd.underlying117 Tryd.underlying61 hj hsh sb_lies]
  simp only [Result.andThen]
  rw [Oper.upon_value]
  go_wp2
  go_end0
  exact ⟨rfl, rfl⟩

/-- A builder of these bytes, in block b. -/
abbrev SB (B b : Nat) (l : List UInt8) (w : World) : Prop := Lib.IsBuilderF 63 5 B b (Lib.byteCells l) w
theorem sb_check (B b : Nat) (bs : List Value) (w : World) (h : Lib.IsBuilderF 63 5 B b bs w) :
    Calls Tryd.prog 58 #[.pointer (some ⟨b, 0, none⟩)] w fun e w' => e = .returned (.tuple #[]) ∧ (Lib.BuilderAtF 63 5 B b (.pointer (some ⟨b, 0, none⟩)) bs w' ∧ Below B w w' ∧ Lib.OthersKept 5 (some b) w w') := by
  rcases h with h | h
  · refine (sb_check_fresh b w h.cell0 h.shape h.frozen0).mono ?_
    rintro e w' ⟨rfl, rfl⟩
    exact ⟨rfl, h.used _, (Below.refl B w).setCell (p := ⟨b, 0, none⟩) h.1 _, (Lib.OthersKept.refl _ _ w).setCell ⟨b, 0, none⟩ rfl _⟩
  · refine (sb_check_used b w h.cell0).mono ?_
    rintro e w' ⟨rfl, rfl⟩
    exact ⟨rfl, h, Below.refl B _, Lib.OthersKept.refl _ _ _⟩

set_option maxHeartbeats 2000000 in
set_option maxRecDepth 100000 in
theorem sb_write (B b : Nat) (bs : List Value) (s : ByteArray) (w : World) (h : Lib.IsBuilderF 63 5 B b bs w) (hlen : bs.length + s.size ≤ 140737488355328) (hBw : B ≤ w.heap.size) :
    Calls Tryd.prog 44 #[.pointer (some ⟨b, 0, none⟩), .string s] w fun e w' => e = .returned (.tuple #[.int .i64 s.size, .nilIface]) ∧ (Lib.BuilderAtF 63 5 B b (.pointer (some ⟨b, 0, none⟩)) (bs ++ Lib.strCells s) w' ∧ Below B w w' ∧ Lib.OthersKept 5 (some b) w w') := by
  obtain ⟨i0, hi, hz0, hz1, hz2⟩ := info_parts sb_byte
  go_enter Tryd.func44, Tryd.ntmps44
  go_wp2_with (go_at_call 58; refine (sb_check B b bs _ h).mono ?_)
  rintro e w1 ⟨rfl, h1, hb1, hk1⟩
  obtain ⟨hB, v, hbk, hown, hne⟩ := h1
  have c0 : w1.cell? ⟨b, 0, none⟩ = some (.pointer (some ⟨b, 0, none⟩)) := by rw [Lib.cell_of_heap hbk]; rfl
  have c1 : w1.cell? ⟨b, 1, none⟩ = some v := by rw [Lib.cell_of_heap hbk]; rfl
  go_wp2_with (at_builtin; refine Lib.wpList_append_own_stringF _ rfl _ _ 44 9 rfl B 5 i0 Tryd.underlying44 Tryd.underlying9 hi hz0 hz1 hz2 _ _ _ rfl hown s rfl ?c3 ?c4 ?c5 ?_)
  case c3 => unfold maxLen; omega
  case c4 => omega
  case c5 => have := hb1.size; omega
  intro v' w2 hown' hgrow _
  have hlt : b < w1.heap.size := by
    rcases Nat.lt_or_ge b w1.heap.size with h' | h'
    · exact h'
    · simp [Array.getElem?_eq_none h'] at hbk
  have hb2 : w2.heap[b]? = some (.cells #[.pointer (some ⟨b, 0, none⟩), v] 63 (0, 0)) := by
    rw [hgrow.block b hlt (fun e => hne e.symm)]
    exact hbk
  have d0 : w2.cell? ⟨b, 0, none⟩ = some (.pointer (some ⟨b, 0, none⟩)) := by rw [Lib.cell_of_heap hb2]; rfl
  have d1 : w2.cell? ⟨b, 1, none⟩ = some v := by rw [Lib.cell_of_heap hb2]; rfl
  have f1 : w2.frozen? ⟨b, 1, none⟩ = false := Lib.frozen_of_heap hb2 1
  obtain ⟨ao, n', cap, rfl⟩ : ∃ ao n' cap, v' = .slice ao n' cap := by
    rcases hown'.2 with ⟨hv, _⟩ | ⟨g, cap, cur, fz, hv, _⟩
    · exact ⟨_, _, _, hv⟩
    · exact ⟨_, _, _, hv⟩
  go_wp2
  go_ret2
  refine ⟨rfl, ?_, ?_, (hk1.grown hgrow (Lib.ownsRowF_kind hown)).setCell ⟨b, 1, none⟩ rfl _⟩
  · exact Lib.BuilderAtF.put (T := 63) (e := 5) hB hb2 (bs' := bs ++ Lib.strCells s) (by simpa [Lib.strCells_length] using hown') (by decide)
  · exact (hb1.grown hgrow (by have := hb1.size; omega) (fun k hk => (hown.lt k hk).1)).setCell (p := ⟨b, 1, none⟩) hB _

/-- In bytes. -/
theorem sb_puts (B b : Nat) (l x : List UInt8) (w : World) (h : SB B b l w) (hlen : l.length + x.length ≤ 140737488355328) (hBw : B ≤ w.heap.size) :
    Calls Tryd.prog 44 #[.pointer (some ⟨b, 0, none⟩), .string (T.str x)] w fun e w' => e = .returned (.tuple #[.int .i64 ((T.str x).size : Int), .nilIface]) ∧ SB B b (l ++ x) w' ∧ Below B w w' ∧ Lib.OthersKept 5 (some b) w w' := by
  refine (sb_write B b (Lib.byteCells l) (T.str x) w h (by rw [Lib.byteCells_length, T.str_size]; exact hlen) hBw).mono ?_
  rintro e w' ⟨rfl, h1, h2, h3⟩
  refine ⟨rfl, ?_, h2, h3⟩
  have e1 : Lib.strCells (T.str x) = Lib.byteCells x := rfl
  unfold SB
  rw [Lib.byteCells_append, ← e1]
  exact .inr h1
end Go.Proofs.YtiojobajcnifpaaDoor

/- A line printed, as the program has it, walked: printLine. -/
namespace Go.Proofs.YtiojobajcnifpaaDoor
open Go.RowKit

theorem dig_nat (v : Nat) : T.dig ((v : Nat) : Int) = Lib.decDigits v := by unfold T.dig; rw [Int.toNat_natCast]
theorem tail_snoc (l : List Int) (n : Int) : T.tail (l ++ [n]) = T.tail l ++ (32 :: T.dig n) := by simp [T.tail]
theorem dec_small100 {v : Nat} (h : v < 100) : (Lib.decDigits v).length ≤ 2 := by
  by_cases h1 : v < 10
  · rw [T.dec_small h1]; simp
  · rw [T.dec_big h1, T.dec_small (by omega)]; simp
theorem tail_len : ∀ (l : List Int), (∀ v ∈ l, 0 ≤ v ∧ v < 100) → (T.tail l).length ≤ 3 * l.length
  | [], _ => by simp [T.tail]
  | v :: l, h => by
    have ih := tail_len l (fun x hx => h x (by simp [hx]))
    have hv := h v (by simp)
    have h2 : (T.dig v).length ≤ 2 := by unfold T.dig; exact dec_small100 (by omega)
    unfold T.tail at ih ⊢
    rw [List.flatMap_cons, List.length_append, List.length_cons, List.length_cons]
    omega
theorem kept_blk {b : Nat} {w w' : World} (h : Lib.OthersKept 5 (some b) w w') {g : Nat} {t : TypeId} {cs : List Value} (hk : Blk w g t cs) (ht : t ≠ 5) (hg : g ≠ b) : Blk w' g t cs :=
  h g _ hk (fun e => hg (Option.some.inj e)) (fun c fz e => by cases e; exact ht rfl)

set_option maxRecDepth 1000000 in
set_option maxHeartbeats 4000000 in
theorem tx_printLine (B b : Nat) (l name : List UInt8) (gv : Nat) (t : TypeId) (cs : List Value) (js vs : List Nat) (A2 : Option Addr) (n c2 : Nat) (w : World)
    (hb : SB B b l w) (hBw : B ≤ w.heap.size) (hn : js.length = n) (hn3 : n ≤ 3) (hvl : vs.length = n)
    (hrow : 0 < n → ∃ gq cur, A2 = some ⟨gq, 0, none⟩ ∧ Blk w gq 65 cur ∧ cur.take n = js.map (spotT gv) ∧ gq ≠ b)
    (hk : 0 < n → Blk w gv t cs) (ht : t ≠ 5) (hgv : 0 < n → gv ≠ b) (hval : ∀ (i j v : Nat), js[i]? = some j → vs[i]? = some v → cs[j]? = some (.int .i64 ((v : Nat) : Int))) (hv : ∀ v ∈ vs, v < 100) (hl : l.length ≤ 1000000000) (hnm : name.length ≤ 1000) :
    Calls Tryd.prog 26 #[.pointer (some ⟨b, 0, none⟩), .string (T.str name), .slice A2 n c2] w fun e w' => e = .returned (.tuple #[]) ∧ SB B b (l ++ (T.lineOf name (vs.map fun v => ((v : Nat) : Int)) ++ [10])) w' ∧ Below B w w' ∧ Lib.OthersKept 5 (some b) w w' := by
  have HB := kp hb; have HN := kp hn; have HVl := kp hvl; have HRow := kp hrow; have HK := kp hk; have HVal := kp hval; have HV := kp hv
  clear hb hn hvl hrow hk hval hv
  go_enter Tryd.func26, Tryd.ntmps26
  go_wp2_with fail
  refine (sb_puts B b l name w HB.out (by omega) hBw).mono ?_
  rintro e w1 ⟨rfl, hb1, hw1, ho1⟩
  have HB1 := kp hb1; have HW1 := kp hw1; have HO1 := kp ho1
  clear hb1 hw1 ho1
  go_wp2
  go_loopw [13] (fun v13 wr => ∃ i : Nat, i ≤ n ∧ v13 = .int .i64 i ∧ SB B b (l ++ name ++ T.tail ((vs.take i).map fun v => ((v : Nat) : Int))) wr ∧ Below B w wr ∧ Lib.OthersKept 5 (some b) w wr) (fun v13 _ => n - (intOf v13).toNat)
  case atStart => exact ⟨0, by omega, rfl, by rw [List.take_zero, List.map_nil]; simpa [T.tail] using HB1.out, HW1.out, HO1.out⟩
  case round =>
    obtain ⟨i, hi, rfl, hbr, hwr, hor⟩ := hrel
    have HBr := kp hbr; have HWr := kp hwr; have HOr := kp hor
    have hsr := hwr.size
    have htl : (T.tail ((vs.take i).map fun v => ((v : Nat) : Int))).length ≤ 9 := by
      have h1 := tail_len ((vs.take i).map fun v => ((v : Nat) : Int)) (fun x hx => by
        obtain ⟨v, hv, rfl⟩ := List.mem_map.1 hx
        have := HV.out v (List.mem_of_mem_take hv)
        omega)
      rw [List.length_map, List.length_take] at h1
      omega
    have hll : (l ++ name ++ T.tail ((vs.take i).map fun v => ((v : Nat) : Int))).length ≤ 2000000000 := by rw [List.length_append, List.length_append]; omega
    have HLl := kp hll
    clear hbr hwr hor htl hll
    by_cases hlt : i < n
    · obtain ⟨gq, cur, rfl, hkq, htk, hqb⟩ := HRow.out (by omega)
      obtain ⟨j, hj⟩ : ∃ j, js[i]? = some j := ⟨_, List.getElem?_eq_getElem (by rw [HN.out]; exact hlt)⟩
      obtain ⟨v, hvv⟩ : ∃ v, vs[i]? = some v := ⟨_, List.getElem?_eq_getElem (by rw [HVl.out]; exact hlt)⟩
      have hv100 := HV.out v (List.mem_of_getElem? hvv)
      have hcq : wr.cell? ⟨gq, i, none⟩ = some (.pointer (some ⟨gv, j, none⟩)) := by
        rw [(kept_blk HOr.out hkq (by decide) hqb).cell]
        have e : (cur.take n)[i]? = some (spotT gv j) := by rw [htk, List.getElem?_map, hj]; rfl
        rw [List.getElem?_take, if_pos hlt] at e
        exact e
      have hgv' := hgv (by omega)
      have hKv := kept_blk HOr.out (HK.out (by omega)) ht hgv'
      have HVV := kp hvv; have HJJ := kp hj
      have hadd := add_start gq i
      have HKv := kp hKv
      have hslt : i < n := hlt
      clear hj hvv hkq htk hKv
      go_wp2_with fail
      refine (sb_puts B b _ [32] _ HBr.out (by have := HLl.out; simp only [List.length_cons, List.length_nil]; omega) (by omega)).mono ?_
      rintro e w2 ⟨rfl, hb2, hw2, ho2⟩
      have hcj : w2.cell? ⟨gv, j, none⟩ = some (.int .i64 ((v : Nat) : Int)) := by
        rw [(kept_blk ho2 HKv.out ht hgv').cell]
        exact HVal.out i j v HJJ.out HVV.out
      have HB2 := kp hb2; have HW2 := kp (HWr.out.trans hw2); have HO2 := kp (HOr.out.trans ho2)
      have hs2 := hw2.size
      clear hb2 hw2 ho2
      go_wp2_with (first | (go_at_call 45; go_must (refine (Tryd.strconv_Itoa_small v hv100 _).mono ?_); rintro e9 w9 ⟨rfl, hw9⟩; have hw9' := hw9.symm; subst hw9'))
      go_wp2_with fail
      refine (sb_puts B b _ (Lib.decDigits v) _ HB2.out (by have := HLl.out; have := dec_small100 hv100; rw [List.length_append]; simp only [List.length_cons, List.length_nil]; omega) (by omega)).mono ?_
      rintro e w3 ⟨rfl, hb3, hw3, ho3⟩
      have HB3 : Kept (SB B b (l ++ name ++ T.tail ((vs.take (i + 1)).map fun v => ((v : Nat) : Int))) w3) := kp (by
        rw [List.take_add_one, HVV.out, Option.toList_some, List.map_append, List.map_cons, List.map_nil, tail_snoc, dig_nat]
        have h := hb3
        simpa [List.append_assoc] using h)
      have HW3 := kp (HW2.out.trans hw3); have HO3 := kp (HO2.out.trans ho3)
      clear hb3 hw3 ho3
      go_wp2
      go_roundw
      case rel => exact ⟨i + 1, by omega, by go_num, HB3.out, HW3.out, HO3.out⟩
      case measure => simp [intOf]; omega
    · have hie : i = n := by omega
      go_wp2_with fail
      refine (sb_puts B b _ [10] _ HBr.out (by have := HLl.out; simp only [List.length_cons, List.length_nil]; omega) (by omega)).mono ?_
      rintro e w3 ⟨rfl, hb3, hw3, ho3⟩
      have HB3 : Kept (SB B b (l ++ (T.lineOf name (vs.map fun v => ((v : Nat) : Int)) ++ [10])) w3) := kp (by
        have h := hb3
        rw [hie, ← HVl.out, List.take_length] at h
        unfold T.lineOf
        simpa [List.append_assoc] using h)
      have HW3 := kp (HWr.out.trans hw3); have HO3 := kp (HOr.out.trans ho3)
      clear hb3 hw3 ho3
      go_wp2
      go_end0
      exact ⟨rfl, HB3.out, HW3.out, HO3.out⟩
end Go.Proofs.YtiojobajcnifpaaDoor

/- What is printed is read as it was, on plain data. -/
namespace Go.Proofs.YtiojobajcnifpaaDoor.T

theorem free_dig {c : UInt8} (hc : digit c = false) (n : Int) : c ∉ dig n := fun h => by
  have := List.all_eq_true.1 (dec_digits n.toNat).1 c h
  rw [hc] at this; cases this
theorem free_tail10 : ∀ (l : List Int), (10 : UInt8) ∉ tail l
  | [] => by simp [tail]
  | n :: l => by
    have ih := free_tail10 l
    unfold tail at ih ⊢
    rw [List.flatMap_cons]
    intro h
    rcases List.mem_append.1 h with h | h
    · rcases List.mem_cons.1 h with h | h
      · cases h
      · exact free_dig (by rfl) n h
    · exact ih h
theorem parts_line : ∀ (l : List Int) (nm : List UInt8), (32 : UInt8) ∉ nm → parts 32 (lineOf nm l) = nm :: l.map dig
  | [], nm, h => by
    unfold lineOf tail
    rw [List.flatMap_nil, List.append_nil, parts_one 32 nm h]; rfl
  | n :: l, nm, h => by
    have e : lineOf nm (n :: l) = nm ++ 32 :: lineOf (dig n) l := by
      unfold lineOf tail
      rw [List.flatMap_cons, List.cons_append]
    rw [e, parts_app 32 nm _ h, parts_line l (dig n) (free_dig (by rfl) n)]; rfl
theorem names_free : ∀ k, k < 10 → (32 : UInt8) ∉ names.getD k [] ∧ (10 : UInt8) ∉ names.getD k [] ∧ names.getD k [] ≠ func ∧ names.getD k [] ≠ [] ∧ idx (names.getD k []) 0 names = some k := by decide
theorem dig_ne (n : Int) : dig n ≠ [] := (dec_digits n.toNat).2.2.2
theorem line_ne (nm : List UInt8) (l : List Int) (h : nm ≠ []) : lineOf nm l ≠ [] := by
  unfold lineOf
  intro e
  exact h (List.append_eq_nil_iff.1 e).1
theorem nums_dig : ∀ (l : List Int), (∀ v ∈ l, 0 ≤ v ∧ v < 10000) → nums (l.map dig) = some (l.map Int.toNat)
  | [], _ => rfl
  | v :: l, h => by
    have ih := nums_dig l (fun x hx => h x (by simp [hx]))
    have hv := h v (by simp)
    rw [List.map_cons, nums, show number (dig v) = some v.toNat from number_dec (by omega), ih]; rfl

/-- Parts of a text of lines. -/
theorem parts_text : ∀ (ls : List (List UInt8)), (∀ l ∈ ls, (10 : UInt8) ∉ l) → parts 10 (text ls) = ls ++ [[]]
  | [], _ => rfl
  | x :: ls, h => by
    have ih := parts_text ls (fun y hy => h y (by simp [hy]))
    have e : text (x :: ls) = x ++ 10 :: text ls := by unfold text; rw [List.flatMap_cons, List.append_assoc]; rfl
    rw [e, parts_app 10 x _ (h x (by simp)), ih]; rfl

/-- Lines, one behind the other. -/
def steps : St → List (List UInt8) → Option St
  | st, [] => some st
  | st, l :: ls => (step st l).bind fun s => steps s ls
theorem steps_app : ∀ (a b : List (List UInt8)) (st : St), steps st (a ++ b) = (steps st a).bind fun s => steps s b
  | [], b, st => rfl
  | x :: a, b, st => by
    rw [List.cons_append, steps, steps]
    cases h : step st x with
    | none => rfl
    | some s => rw [Option.bind_some, Option.bind_some]; exact steps_app a b s
theorem run_steps : ∀ {ls : List (List UInt8)} {st st' : St}, steps st ls = some st' → ∀ i, run st i ls = .inl st'
  | [], st, st', h, i => by cases h; rfl
  | x :: ls, st, st', h, i => by
    rw [steps] at h
    cases hs : step st x with
    | none => rw [hs] at h; cases h
    | some s => rw [hs] at h; rw [run_some hs]; exact run_steps h (i + 1)
def full (l : List UInt8) : Bool := !l.isEmpty
theorem steps_full : ∀ (ls : List (List UInt8)) (st : St), steps st ls = steps st (ls.filter full)
  | [], st => rfl
  | x :: ls, st => by
    by_cases hx : x = []
    · subst hx
      rw [List.filter_cons_of_neg (by decide), steps, step_nil, Option.bind_some]
      exact steps_full ls st
    · rw [List.filter_cons_of_pos (by simpa [full] using hx), steps, steps]
      cases h : step st x with
      | none => rfl
      | some s => rw [Option.bind_some, Option.bind_some]; exact steps_full ls s

/-- A node's line. -/
theorem step_node {x : Nd} (hx : C.NdOk x) (d : C.PD) (L : List (List Nd)) (l : List Nd) (hd : d.L = L ++ [l]) : step ⟨false, d⟩ (ndL x) = some ⟨false, { d with L := L ++ [l ++ [x]] }⟩ := by
  obtain ⟨k, hk⟩ : ∃ k : Nat, x.kind = k := ⟨x.kind.toNat, by have h : 0 ≤ x.kind := hx.kind.1; omega⟩
  have hk9 : k < 10 := by have h : x.kind ≤ 9 := hx.kind.2; omega
  obtain ⟨f1, f2, f3, f4, f5⟩ := names_free k hk9
  have hn : name x.kind = names.getD k [] := by unfold name; rw [hk, Int.toNat_natCast]
  have hne : ndL x ≠ [] := by unfold ndL; rw [hn]; exact line_ne _ _ f4
  have hp : parts 32 (ndL x) = names.getD k [] :: (told x).map dig := by unfold ndL; rw [hn]; exact parts_line _ _ f1
  have ht : told x = (tl k).map (C.fld x) := by unfold told; rw [hk, Int.toNat_natCast]
  have hb : ∀ v ∈ told x, 0 ≤ v ∧ v < 10000 := fun v hv => by
    rw [ht] at hv
    obtain ⟨j, hj, rfl⟩ := List.mem_map.1 hv
    have h1 := (hx.fields j (tl_le k j hj)).1
    have h2 := (hx.fields j (tl_le k j hj)).2
    omega
  rw [step_line hne, hp]
  show lineW ⟨false, d⟩ (names.getD k []) ((told x).map dig) = _
  unfold lineW
  rw [if_neg (by simp), if_neg f3, if_neg (by rw [hd]; simp)]
  unfold lineN
  rw [f5, Option.bind_some, if_pos (by rw [List.length_map, ht, List.length_map]), nums_dig _ hb, Option.map_some, hd, push_snoc]
  have hf : fill (nd0 k) (tl k) ((told x).map Int.toNat) = x := by
    rw [ht]
    obtain ⟨xk, xa, xn, xt⟩ := x
    have hk : xk = (k : Int) := hk
    subst hk
    have g0 := hx.fields 0 (by omega)
    have g1 := hx.fields 1 (by omega)
    have g2 := hx.fields 2 (by omega)
    have r0 := hx.rest 0 (by omega)
    have r1 := hx.rest 1 (by omega)
    have r2 := hx.rest 2 (by omega)
    simp only [C.fld] at g0 g1 g2 r0 r1 r2
    simp at g0 g1 g2 r0 r1 r2
    have n0 := Int.toNat_of_nonneg g0.1
    have n1 := Int.toNat_of_nonneg g1.1
    have n2 := Int.toNat_of_nonneg g2.1
    clear hx f1 f2 f3 f4 f5 hn hne hp ht hb
    have hc : k = 0 ∨ k = 1 ∨ k = 2 ∨ k = 3 ∨ k = 4 ∨ k = 5 ∨ k = 6 ∨ k = 7 ∨ k = 8 ∨ k = 9 := by omega
    rcases hc with rfl | rfl | rfl | rfl | rfl | rfl | rfl | rfl | rfl | rfl <;>
    · simp [C.tl] at r0 r1 r2
      simp [tl, fill, nd0, C.set, C.fld, n0, n1, n2]
      try omega
  rw [hf]
theorem steps_nodes : ∀ (l : List Nd), (∀ x ∈ l, C.NdOk x) → ∀ (d : C.PD) (L : List (List Nd)) (l0 : List Nd), d.L = L ++ [l0] → steps ⟨false, d⟩ (l.map ndL) = some ⟨false, { d with L := L ++ [l0 ++ l] }⟩
  | [], _, d, L, l0, hd => by
    rw [List.append_nil, ← hd]; rfl
  | x :: l, h, d, L, l0, hd => by
    rw [List.map_cons, steps, step_node (h x (by simp)) d L l0 hd, Option.bind_some, steps_nodes l (fun y hy => h y (by simp [hy])) _ L (l0 ++ [x]) rfl]
    simp
theorem step_func (d : C.PD) : step ⟨false, d⟩ func = some ⟨false, { d with L := d.L ++ [[]] }⟩ := by
  rw [step_line (by decide), show parts 32 func = [func] from by decide]
  show lineW ⟨false, d⟩ func [] = _
  unfold lineW
  rw [if_neg (by simp), if_pos rfl, if_pos rfl]
theorem steps_fns : ∀ (L : List (List Nd)), (∀ l ∈ L, C.FnOk l) → ∀ (d : C.PD), steps ⟨false, d⟩ (linesL L) = some ⟨false, { d with L := d.L ++ L }⟩
  | [], _, d => by simp [linesL, steps]
  | l :: L, h, d => by
    have e : linesL (l :: L) = func :: (l.map ndL ++ linesL L) := by simp [linesL, fnL]
    rw [e, steps, step_func, Option.bind_some, steps_app, steps_nodes l (h l (by simp)).nodes _ d.L [] rfl, Option.bind_some, steps_fns L (fun y hy => h y (by simp [hy]))]
    simp
theorem step_first {g l s : Int} (hg : 0 ≤ g ∧ g < 10000) (hl : 0 ≤ l ∧ l < 10000) (hs : 0 ≤ s ∧ s < 10000) : step st0 (lineOf alibi (g :: l :: s :: [])) = some ⟨false, ⟨g, l, s, []⟩⟩ := by
  rw [step_line (line_ne _ _ (by decide)), parts_line _ _ (by decide)]
  show lineW st0 alibi ((g :: l :: s :: []).map dig) = _
  unfold lineW line1
  rw [if_pos (show st0.first = true from rfl), if_pos ⟨rfl, rfl⟩, nums_dig _ (by intro v hv; simp at hv; rcases hv with rfl | rfl | rfl <;> assumption)]
  show some (St.mk false ⟨((g.toNat : Nat) : Int), ((l.toNat : Nat) : Int), ((s.toNat : Nat) : Int), []⟩) = _
  rw [Int.toNat_of_nonneg hg.1, Int.toNat_of_nonneg hl.1, Int.toNat_of_nonneg hs.1]
theorem steps_lines {d : C.PD} (h : C.PDOk d) : steps st0 (lines d) = some ⟨false, d⟩ := by
  unfold lines
  have hg : 0 ≤ d.g ∧ d.g ≤ 16 := h.g
  have hl : 0 ≤ d.l ∧ d.l ≤ 16 := h.l
  have hs : 0 ≤ d.s ∧ d.s ≤ 8 := h.s
  rw [steps, step_first (by omega) (by omega) (by omega), Option.bind_some, steps_fns d.L h.fns]
  rfl
theorem free_line (nm : List UInt8) (l : List Int) (h : (10 : UInt8) ∉ nm) : (10 : UInt8) ∉ lineOf nm l := by
  unfold lineOf
  intro hm
  rcases List.mem_append.1 hm with hm | hm
  · exact h hm
  · exact free_tail10 l hm
theorem free_nd {x : Nd} (hx : C.NdOk x) : (10 : UInt8) ∉ ndL x ∧ ndL x ≠ [] := by
  have h9 : x.kind ≤ 9 := hx.kind.2
  have h0 : 0 ≤ x.kind := hx.kind.1
  obtain ⟨_, f2, _, f4, _⟩ := names_free x.kind.toNat (by omega)
  exact ⟨free_line _ _ f2, line_ne _ _ f4⟩
theorem lines_free {d : C.PD} (h : C.PDOk d) : ∀ l ∈ lines d, (10 : UInt8) ∉ l ∧ l ≠ [] := by
  intro l hl
  unfold lines at hl
  rcases List.mem_cons.1 hl with rfl | hl
  · exact ⟨free_line _ _ (by decide), line_ne _ _ (by decide)⟩
  · unfold linesL at hl
    obtain ⟨f, hf, hl⟩ := List.mem_flatMap.1 hl
    unfold fnL at hl
    rcases List.mem_cons.1 hl with rfl | hl
    · decide
    · obtain ⟨x, hx, rfl⟩ := List.mem_map.1 hl
      exact free_nd ((h.fns f hf).nodes x hx)
/-- Whatever reads as these lines, and lines without bytes. -/
theorem parse_of {d : C.PD} (h : C.PDOk d) (hc : (Q.check (C.pgOf d)).2.2 = 0) {t : List UInt8} (hl : t.length ≤ 65536) (ht : (parts 10 t).filter full = lines d) : parse t = (d, 0, 0) := by
  have h1 : steps st0 (parts 10 t) = some ⟨false, d⟩ := by rw [steps_full, ht, steps_lines h]
  unfold parse
  rw [if_neg (by omega), run_steps h1 0]
  show fin _ = _
  unfold fin
  rw [if_pos hc]
theorem print_full {d : C.PD} (h : C.PDOk d) : (parts 10 (print d)).filter full = lines d := by
  unfold print
  rw [parts_text _ (fun l hl => (lines_free h l hl).1), List.filter_append]
  have e : (lines d).filter full = lines d := List.filter_eq_self.2 fun l hl => by
    have := (lines_free h l hl).2
    simpa [full] using this
  rw [e]; simp [full]

/-- More ends of lines, here and there. -/
def ex (b : Nat) : Nat → List UInt8 → List UInt8
  | _, [] => []
  | n, x :: l => if x = 10 then (if (n + 1) % 3 = b % 3 then 10 :: 10 :: ex b (n + 1) l else 10 :: ex b (n + 1) l) else x :: ex b n l
theorem ex_parts (b : Nat) : ∀ (l : List UInt8) (n : Nat), ∃ p qs ps, parts 10 (ex b n l) = p :: qs ∧ parts 10 l = p :: ps ∧ qs.filter full = ps.filter full
  | [], n => ⟨[], [], [], rfl, rfl, rfl⟩
  | x :: l, n => by
    by_cases hx : x = 10
    · subst hx
      obtain ⟨p, qs, ps, h1, h2, h3⟩ := ex_parts b l (n + 1)
      rw [ex, if_pos rfl, parts_eq, h2]
      have hf : (p :: qs).filter full = (p :: ps).filter full := by rw [List.filter_cons, List.filter_cons, h3]
      by_cases hn : (n + 1) % 3 = b % 3
      · rw [if_pos hn, parts_eq, parts_eq, h1]
        exact ⟨[], _, _, rfl, rfl, by rw [List.filter_cons_of_neg (by decide), hf]⟩
      · rw [if_neg hn, parts_eq, h1]
        exact ⟨[], _, _, rfl, rfl, hf⟩
    · obtain ⟨p, qs, ps, h1, h2, h3⟩ := ex_parts b l n
      rw [ex, if_neg hx, parts_other hx, parts_other hx, h1, h2]
      exact ⟨x :: p, qs, ps, rfl, rfl, h3⟩
theorem ex_full (b : Nat) (l : List UInt8) (n : Nat) : (parts 10 (ex b n l)).filter full = (parts 10 l).filter full := by
  obtain ⟨p, qs, ps, h1, h2, h3⟩ := ex_parts b l n
  rw [h1, h2, List.filter_cons, List.filter_cons, h3]
theorem ex_len (b : Nat) : ∀ (l : List UInt8) (n : Nat), (ex b n l).length ≤ 2 * l.length
  | [], n => by simp [ex]
  | x :: l, n => by
    have h1 := ex_len b l n
    have h2 := ex_len b l (n + 1)
    rw [ex]
    split
    · split <;> simp only [List.length_cons] <;> omega
    · simp only [List.length_cons]; omega
end Go.Proofs.YtiojobajcnifpaaDoor.T
