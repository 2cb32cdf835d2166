/- Str, ShaLaw1, Equal, ShaLaw2, in one text. -/
import Derived.Test.YtdnhfpphjpnklaaDoorPk3
import Derived.Laws.Strings2
import Derived.Laws.Concat
import Derived.Test.YtdnhfpphjpnklaaDoorPk17
import Derived.Lib.SlBytesConst
import Derived.Deep.RegionWith
import Derived.Laws.StructEq
/- Strings: a part, two joined. -/
namespace Go.Proofs.YtdnhfpphjpnklaaDoor
open Go.RowKit

/-- s[i:j] of a string. -/
theorem wpList_slice_str {P : Program} {ops : Array Oper} {rest : List Oper} {o : Oper} {a : Act} {w : World} {Q : Exit → Act → World → Prop} (hgd : o.guard = none) (ty : TypeId) (x lo hi : Operand) (ho : o.op = .slice ty x (some lo) (some hi) none)
    (hu : P.underlying ty = some .string) (s : ByteArray) (hx : a.eval x = .string s) (k k' : IntKind) (i j : Nat) (hl : a.eval lo = .int k (i : Int)) (hh : a.eval hi = .int k' (j : Int)) (hij : i ≤ j) (hj : j ≤ s.size)
    (t : ByteArray) (ht : s.extract i j = t) (h : wpList P ops Q rest (a.put o.dst (.string t)) w) : wpList P ops Q (o :: rest) a w := by
  refine wpList_plain hgd fun K hK => ?_
  subst ht
  have h1 := run_slice_string (P := P) w ty s k k' (i : Int) (j : Int) hu (by omega) (by omega) (by omega)
  have h2 := run_sliceAt_string (P := P) w ty (.string s) (some (.int k (i : Int))) (some (.int k' (j : Int))) none hu
  rw [h1] at h2
  unfold Oper.wp execOp
  simp only [ho, hx, hl, hh, Option.map_some, Option.map_none, h2, Sem.run_bind, Sem.run_pure, Result.andThen_ok, Int.toNat_natCast]
  exact hK _ _ h
theorem size_part (s : ByteArray) (i j : Nat) (h : i ≤ j) (hj : j ≤ s.size) : (s.extract i j).size = j - i := by simp; omega
end Go.Proofs.YtdnhfpphjpnklaaDoor

/- What the statements of sha begin with, walked. -/
namespace Go.Proofs.YtdnhfpphjpnklaaDoor
open Go.RowKit

/-- Bytes as digits. -/
def hexDigits : ByteArray := ⟨#[48, 49, 50, 51, 52, 53, 54, 55, 56, 57, 97, 98, 99, 100, 101, 102]⟩
def hexOne (s : ByteArray) (b : Nat) : ByteArray := (s ++ hexDigits.extract (b / 16) (b / 16 + 1)) ++ hexDigits.extract (b % 16) (b % 16 + 1)
def hexAll (l : List Nat) : ByteArray := l.foldl hexOne ⟨#[]⟩
theorem hexAll_snoc (l : List Nat) (b : Nat) : hexAll (l ++ [b]) = hexOne (hexAll l) b := by simp [hexAll]

def digNil : List Nat := [227, 176, 196, 66, 152, 252, 28, 20, 154, 251, 244, 200, 153, 111, 185, 36, 39, 174, 65, 228, 100, 155, 147, 76, 164, 149, 153, 27, 120, 82, 184, 85]
def digAbc : List Nat := [186, 120, 22, 191, 143, 1, 207, 234, 65, 65, 64, 222, 93, 174, 34, 35, 176, 3, 97, 163, 150, 23, 122, 156, 180, 16, 255, 97, 242, 0, 21, 173]
theorem nil_digest : H.digest [] = digNil := by decide +kernel
theorem abc_digest : H.digest [97, 98, 99] = digAbc := by decide +kernel

theorem hex_nil : hexAll digNil = ⟨#[101, 51, 98, 48, 99, 52, 52, 50, 57, 56, 102, 99, 49, 99, 49, 52, 57, 97, 102, 98, 102, 52, 99, 56, 57, 57, 54, 102, 98, 57, 50, 52, 50, 55, 97, 101, 52, 49, 101, 52, 54, 52, 57, 98, 57, 51, 52, 99, 97, 52, 57, 53, 57, 57, 49, 98, 55, 56, 53, 50, 98, 56, 53, 53]⟩ := by decide +kernel
theorem hex_abc : hexAll digAbc = ⟨#[98, 97, 55, 56, 49, 54, 98, 102, 56, 102, 48, 49, 99, 102, 101, 97, 52, 49, 52, 49, 52, 48, 100, 101, 53, 100, 97, 101, 50, 50, 50, 51, 98, 48, 48, 51, 54, 49, 97, 51, 57, 54, 49, 55, 55, 97, 57, 99, 98, 52, 49, 48, 102, 102, 54, 49, 102, 50, 48, 48, 49, 53, 97, 100]⟩ := by decide +kernel

theorem Row.madeF {α : Type} (f : α → Value) (w : World) (l : List α) (cs : Array Value) (hcs : cs.toList = l.map f) (e : TypeId) (fr : Nat × Nat) (g n : Nat) (hg : g = w.heap.size) (hn : n = l.length) : Row f (w.alloc (.cells cs e fr)) (w.alloc (.cells cs e fr)).heap.size (some ⟨g, 0, none⟩) n l := by
  subst hg; subst hn
  exact ⟨rfl, fun _ => ⟨_, rfl, by simp, fun k _ => by
    have hadd : (⟨w.heap.size, 0, none⟩ : Addr).add k = ⟨w.heap.size, k, none⟩ := by unfold Addr.add; split <;> simp_all
    rw [hadd, cell_of_row _ w.heap.size k cs e fr (heap_alloc_new w _), ← Array.getElem?_toList, hcs, List.getElem?_map]⟩⟩
theorem only_ok {p : Part} {w : World} {B : Nat} (h : p.Ok w B) : ∀ q ∈ [p], q.Ok w B := by
  intro q hq; rw [List.mem_singleton] at hq; subst hq; exact h
end Go.Proofs.YtdnhfpphjpnklaaDoor

/- Arrays of integers compared: one with itself. -/
namespace Go.Proofs.YtdnhfpphjpnklaaDoor
open Go.RowKit

theorem forIn_same {P : Program} {w : World} {β : Type} (body : Nat → β → Sem (ForInStep β)) (s : β) : ∀ (l : List Nat), (∀ i ∈ l, (body i s).run P w = .ok (.yield s) w) → (forIn l s body).run P w = .ok s w
  | [], _ => by simp
  | i :: r, h => by
    rw [List.forIn_cons, Sem.run_bind, h i (by simp)]
    simp only [Result.andThen_ok]
    exact forIn_same body s r fun j hj => h j (by simp [hj])

theorem run_equal_arr {P : Program} (w : World) (d : Nat) (t e : TypeId) (n : Nat) (k k2 : IntKind) (ht : P.underlying t = some (.array n e)) (he : P.underlying e = some (.int k2)) (hsz : (P.info? e).map (·.size) = some 1) (vs : List Int) (hl : vs.length = n) :
    (Op.equalIn (d + 2) t (.agg (vs.map (Value.int k)).toArray) (.agg (vs.map (Value.int k)).toArray)).run P w = .ok true w := by
  have hagg : (isAgg e).run P w = .ok false w := by
    unfold isAgg
    rw [Sem.run_bind, run_underlying he w]; rfl
  cases hq : P.info? e with
  | none => simp [hq] at hsz
  | some ie =>
    have hs : ie.size = 1 := by simpa [hq] using hsz
    have hso : (sizeOf e).run P w = .ok 1 w := by simp [sizeOf, typeInfo, hq, hs]
    unfold Op.equalIn
    simp only [Sem.run_bind, run_underlying ht w, Result.andThen_ok, hso, Std.Legacy.Range.forIn_eq_forIn_range']
    rw [forIn_same]
    · rfl
    · intro i hi
      have hin : i < vs.length := by
        simp [Std.Legacy.Range.size] at hi
        omega
      simp [part, hagg, hin, run_equalIn_int w d e k k2 _ _ he]
/-- The comparison of such an array with itself. -/
theorem wpList_eql_arr {P : Program} {ops : Array Oper} {rest : List Oper} {o : Oper} {a : Act} {w : World} {Q : Exit → Act → World → Prop} (hgd : o.guard = none) (t u : TypeId) (x y : Operand) (ho : o.op = .binOp .eql t x y u)
    (n : Nat) (e : TypeId) (k k2 : IntKind) (ht : P.underlying t = some (.array n e)) (he : P.underlying e = some (.int k2)) (hsz : (P.info? e).map (·.size) = some 1) (hm : P.eqGuardType P.depth t = false)
    (vs : List Int) (hl : vs.length = n) (hx : a.eval x = .agg (vs.map (Value.int k)).toArray) (hy : a.eval y = .agg (vs.map (Value.int k)).toArray) (h : wpList P ops Q rest (a.put o.dst (.bool true)) w) : wpList P ops Q (o :: rest) a w := by
  refine wpList_plain hgd fun K hK => ?_
  unfold Oper.wp execOp
  simp only [ho, hx, hy, Sem.run_bind, run_eqGuard_agg w .eql t x y _ _ hm, run_eql_struct w t _ _, run_equal_arr w 9998 t e n k k2 ht he hsz vs hl, Result.andThen_ok, Sem.run_pure]
  exact hK _ _ h
/-- The same, where they are asked to be unlike. -/
theorem wpList_neq_arr {P : Program} {ops : Array Oper} {rest : List Oper} {o : Oper} {a : Act} {w : World} {Q : Exit → Act → World → Prop} (hgd : o.guard = none) (t u : TypeId) (x y : Operand) (ho : o.op = .binOp .neq t x y u)
    (n : Nat) (e : TypeId) (k k2 : IntKind) (ht : P.underlying t = some (.array n e)) (he : P.underlying e = some (.int k2)) (hsz : (P.info? e).map (·.size) = some 1) (hm : P.eqGuardType P.depth t = false)
    (vs : List Int) (hl : vs.length = n) (hx : a.eval x = .agg (vs.map (Value.int k)).toArray) (hy : a.eval y = .agg (vs.map (Value.int k)).toArray) (h : wpList P ops Q rest (a.put o.dst (.bool false)) w) : wpList P ops Q (o :: rest) a w := by
  refine wpList_plain hgd fun K hK => ?_
  unfold Oper.wp execOp
  simp only [ho, hx, hy, Sem.run_bind, run_eqGuard_agg w .neq t x y _ _ hm, run_neq_struct w t _ _, run_equal_arr w 9998 t e n k k2 ht he hsz vs hl, Result.andThen_ok, Sem.run_pure]
  exact hK _ _ h
/-- The comparison of such an array with itself, under a guard. -/
theorem wpList_eql_arr_want {P : Program} {ops : Array Oper} {rest : List Oper} {o : Oper} {a : Act} {w : World} {Q : Exit → Act → World → Prop} (hgd : Region.wanted o (yielded ops a.tmps) = true) (t u : TypeId) (x y : Operand) (ho : o.op = .binOp .eql t x y u)
    (n : Nat) (e : TypeId) (k k2 : IntKind) (ht : P.underlying t = some (.array n e)) (he : P.underlying e = some (.int k2)) (hsz : (P.info? e).map (·.size) = some 1) (hm : P.eqGuardType P.depth t = false)
    (vs : List Int) (hl : vs.length = n) (hx : a.eval x = .agg (vs.map (Value.int k)).toArray) (hy : a.eval y = .agg (vs.map (Value.int k)).toArray) (h : wpList P ops Q rest (a.put o.dst (.bool true)) w) : wpList P ops Q (o :: rest) a w := by
  refine BigFrame.wpList_want hgd fun K hK => ?_
  unfold Oper.wp execOp
  simp only [ho, hx, hy, Sem.run_bind, run_eqGuard_agg w .eql t x y _ _ hm, run_eql_struct w t _ _, run_equal_arr w 9998 t e n k k2 ht he hsz vs hl, Result.andThen_ok, Sem.run_pure]
  exact hK _ _ h
end Go.Proofs.YtdnhfpphjpnklaaDoor

/- The digest of one slice, as the statements ask it. -/
namespace Go.Proofs.YtdnhfpphjpnklaaDoor
open Go.RowKit

theorem of_lit (A : Option Addr) (n c B : Nat) (bs : List Nat) (W : World) (hr : Row byteV W B A n bs) (hB : B ≤ W.heap.size) (hb : ∀ x ∈ bs, x < 256) (hnc : n ≤ c) (hk : Row wordV W 1 (some ⟨0, 0, none⟩) 64 H.K) (hm : bs.length ≤ 900000000) (dig : List Nat) (hd : H.digest bs = dig) :
    Calls Tryd.prog 17 #[.slice (some ⟨W.heap.size, 0, none⟩) 1 1] (W.alloc (.cells #[.slice A n c] 27)) fun e w' => e = .returned (.agg (dig.map byteV).toArray) ∧ Below W.heap.size W w' := by
  have hal : Below W.heap.size W (W.alloc (.cells #[.slice A n c] 27)) := (Below.refl _ _).alloc (Nat.le_refl _) _
  have hk1 := keys_size hk
  have hok : Part.Ok ⟨A, n, c, bs⟩ (W.alloc (.cells #[.slice A n c] 27)) (W.alloc (.cells #[.slice A n c] 27)).heap.size :=
    ⟨(hr.below (hal.mono hB)).more (by simp; omega), hb, hnc⟩
  refine (of_any _ 1 1 _ [⟨A, n, c, bs⟩] _ (Row.madeF partV W [⟨A, n, c, bs⟩] _ rfl 27 (0, 0) _ 1 rfl rfl) (Nat.le_refl _) (only_ok hok) (hk.below (hal.mono hk1)) (by omega) (by simpa [joined] using hm) dig (by simpa [joined] using hd)).mono ?_
  rintro e w' ⟨he, hw⟩
  exact ⟨he, hal.trans (hw.mono hal.size)⟩
theorem dig_ints (dig : List Nat) : (Value.agg (dig.map byteV).toArray) = .agg ((dig.map fun n : Nat => (n : Int)).map (Value.int .u8)).toArray := by rw [List.map_map]; rfl
theorem eq32 : Tryd.prog.eqGuardType Tryd.prog.depth 31 = false := by kernel_rfl

/-- Two digests that are one are told to be so. -/
theorem wpList_eql_dig {ops : Array Oper} {rest : List Oper} {o : Oper} {a : Act} {w : World} {Q : Exit → Act → World → Prop} (hgd : o.guard = none) (x y : Operand) (u : TypeId) (ho : o.op = .binOp .eql 31 x y u) (dig : List Nat) (hl : dig.length = 32)
    (hx : a.eval x = .agg (dig.map byteV).toArray) (hy : a.eval y = .agg (dig.map byteV).toArray) (h : wpList Tryd.prog ops Q rest (a.put o.dst (.bool true)) w) : wpList Tryd.prog ops Q (o :: rest) a w :=
  wpList_eql_arr hgd 31 u x y ho 32 5 .u8 .u8 Tryd.underlying31 Tryd.underlying5 size1b eq32 (dig.map fun n : Nat => (n : Int)) (by rw [List.length_map]; exact hl) (hx.trans (dig_ints dig)) (hy.trans (dig_ints dig)) h
theorem wpList_neq_dig {ops : Array Oper} {rest : List Oper} {o : Oper} {a : Act} {w : World} {Q : Exit → Act → World → Prop} (hgd : o.guard = none) (x y : Operand) (u : TypeId) (ho : o.op = .binOp .neq 31 x y u) (dig : List Nat) (hl : dig.length = 32)
    (hx : a.eval x = .agg (dig.map byteV).toArray) (hy : a.eval y = .agg (dig.map byteV).toArray) (h : wpList Tryd.prog ops Q rest (a.put o.dst (.bool false)) w) : wpList Tryd.prog ops Q (o :: rest) a w :=
  wpList_neq_arr hgd 31 u x y ho 32 5 .u8 .u8 Tryd.underlying31 Tryd.underlying5 size1b eq32 (dig.map fun n : Nat => (n : Int)) (by rw [List.length_map]; exact hl) (hx.trans (dig_ints dig)) (hy.trans (dig_ints dig)) h
theorem wpList_eql_dig_want {ops : Array Oper} {rest : List Oper} {o : Oper} {a : Act} {w : World} {Q : Exit → Act → World → Prop} (hgd : Region.wanted o (yielded ops a.tmps) = true) (x y : Operand) (u : TypeId) (ho : o.op = .binOp .eql 31 x y u) (dig : List Nat) (hl : dig.length = 32)
    (hx : a.eval x = .agg (dig.map byteV).toArray) (hy : a.eval y = .agg (dig.map byteV).toArray) (h : wpList Tryd.prog ops Q rest (a.put o.dst (.bool true)) w) : wpList Tryd.prog ops Q (o :: rest) a w :=
  wpList_eql_arr_want hgd 31 u x y ho 32 5 .u8 .u8 Tryd.underlying31 Tryd.underlying5 size1b eq32 (dig.map fun n : Nat => (n : Int)) (by rw [List.length_map]; exact hl) (hx.trans (dig_ints dig)) (hy.trans (dig_ints dig)) h
end Go.Proofs.YtdnhfpphjpnklaaDoor
