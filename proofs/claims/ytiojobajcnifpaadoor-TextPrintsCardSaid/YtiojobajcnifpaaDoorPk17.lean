/- TextP4, TextP2, Owns, Box, in one text. -/
import Derived.Test.YtiojobajcnifpaaDoorPk16
import Derived.Test.YtiojobajcnifpaaDoorPk15
import Derived.Test.YtiojobajcnifpaaDoorPk2
import Derived.Test.YtiojobajcnifpaaDoorPk1
import Derived.Test.YtiojobajcnifpaaDoorPk5
import Derived.Test.YtiojobajcnifpaaDoorPk4
/- Words read into fields, as the program has it, walked: readNumbers. -/
namespace Go.Proofs.YtiojobajcnifpaaDoor
open Go.RowKit

/-- A word as a value; a place in block g. -/
def wordT (l : List UInt8) : Value := .string (T.str l)
theorem wordT_at (l : List UInt8) : wordT l = .string (T.str l) := rfl
def spotT (g j : Nat) : Value := .pointer (some ⟨g, j, none⟩)
theorem spotT_at (g j : Nat) : spotT g j = .pointer (some ⟨g, j, none⟩) := rfl
/-- Cells, after numbers were put there. -/
def setC : List Value → List Nat → List Nat → List Value
  | cs, j :: js, v :: vs => setC (cs.set j (.int .i64 ((v : Nat) : Int))) js vs
  | cs, [], _ => cs
  | cs, _ :: _, [] => cs
theorem setC_nil (cs : List Value) (js : List Nat) : setC cs js [] = cs := by cases js <;> rfl
theorem setC_len : ∀ (cs : List Value) (js vs : List Nat), (setC cs js vs).length = cs.length
  | cs, j :: js, v :: vs => by rw [setC, setC_len, List.length_set]
  | cs, [], vs => by cases vs <;> rfl
  | cs, _ :: _, [] => rfl
theorem setC_snoc : ∀ (cs : List Value) (js vs : List Nat) (j v : Nat), js[vs.length]? = some j → setC cs js (vs ++ [v]) = (setC cs js vs).set j (.int .i64 ((v : Nat) : Int))
  | cs, [], vs, j, v, h => by simp at h
  | cs, i :: js, [], j, v, h => by
    have e : i = j := by simpa using h
    subst e
    show setC (cs.set i _) js [] = _
    rw [setC_nil]; rfl
  | cs, i :: js, u :: vs, j, v, h => by
    rw [List.cons_append, setC, setC]
    exact setC_snoc _ js vs j v (by simpa using h)

set_option maxRecDepth 1000000 in
set_option maxHeartbeats 4000000 in
theorem tx_readNumbers (g : Nat) (t : TypeId) (cs : List Value) (offs : List Nat) (B : Nat) (A A2 : Option Addr) (n c n2 c2 : Nat) (ws : List (List UInt8)) (w : World)
    (hw : Row wordT w B A n ws) (hf : Row (spotT g) w B A2 n2 offs) (hB : B ≤ w.heap.size) (hA : ∀ ad, 0 < n → A = some ad → ad.block ≠ g) (hA2 : ∀ ad, 0 < n2 → A2 = some ad → ad.block ≠ g)
    (hk : Blk w g t cs) (hj : ∀ j ∈ offs, j < cs.length) (hl : ∀ l ∈ ws, l.length ≤ 1000000) (hn : n ≤ maxLen) :
    Calls Tryd.prog 38 #[.slice A n c, .slice A2 n2 c2] w fun e w' => ∃ (b : Bool) (vs : List Nat), e = .returned (.bool b) ∧ Blk w' g t (setC cs offs vs) ∧ Only (· = g) w w' ∧
      (b = true → ws.length = offs.length ∧ T.nums ws = some vs) ∧ (b = false → ws.length = offs.length → T.nums ws = none) ∧ ∀ v ∈ vs, v < 10000 := by
  have hwl := hw.len; have hfl := hf.len
  have HK := kp hk; have HWl := kp hwl; have HFl := kp hfl
  unfold maxLen at hn
  by_cases hne : n = n2
  · subst hne
    have HW := kp hw; have HF := kp hf; have HL := kp hl; have HJ := kp hj; have HA := kp hA; have HA2 := kp hA2
    clear hw hf hl hj hA hA2 hwl hfl hk
    go_enter Tryd.func38, Tryd.ntmps38
    go_wp2
    go_loopw [16] (fun v16 wr => ∃ (i : Nat) (vs : List Nat), i ≤ n ∧ v16 = .int .i64 i ∧ vs.length = i ∧ T.nums (ws.take i) = some vs ∧ Blk wr g t (setC cs offs vs) ∧ Only (· = g) w wr ∧ ∀ v ∈ vs, v < 10000) (fun v16 _ => n - (intOf v16).toNat)
    case atStart => exact ⟨0, [], by omega, rfl, rfl, rfl, by rw [setC_nil]; exact HK.out, Only.refl _ _, by simp⟩
    case round =>
      obtain ⟨i, vs, hi, rfl, hvl, hnm, hbk, hon, hv4⟩ := hrel
      have HVl := kp hvl; have HNm := kp hnm; have HBk := kp hbk; have HOn := kp hon; have HV4 := kp hv4
      have hsr := hon.size
      clear hvl hnm hbk hon hv4
      by_cases hlt : i < n
      · have HWr := kp (HW.out.only HOn.out hB HA.out)
        have HFr := kp (HF.out.only HOn.out hB HA2.out)
        obtain ⟨ad, x, rfl, hab, hx, hcw⟩ := HWr.out.get hlt
        obtain ⟨ad2, j, rfl, hab2, hjx, hcf⟩ := HFr.out.get hlt
        rw [wordT_at] at hcw
        rw [spotT_at] at hcf
        have HX := kp hx; have HJx := kp hjx
        have hxl : x.length ≤ 1000000 := HL.out x (List.mem_of_getElem? hx)
        have hjl : j < cs.length := HJ.out j (List.mem_of_getElem? hjx)
        have hne2 : ad2.block ≠ g := HA2.out ad2 (by omega) rfl
        obtain ⟨r, hr⟩ : ∃ r, T.number x = r := ⟨_, rfl⟩
        have HR := kp hr
        have hadd2 : (ad2.add i).block = ad2.block := add_block ad2 i
        clear hx hjx hr
        cases r with
        | none =>
          go_wp2_with (first
            | (go_at_call 54; go_must (refine (tx_number x _ hxl none HR.out).mono ?_); rintro e9 w9 ⟨rfl, hw9⟩; have HB9 := kp hw9; clear hw9; unfold numR))
          go_ret
          refine ⟨false, vs, rfl, HBk.out.below HB9.out HBk.out.lt, HOn.out.trans (Only.of_below HB9.out), (fun h => by cases h), fun _ _ => ?_, HV4.out⟩
          exact T.nums_none (List.mem_of_getElem? HX.out) HR.out
        | some v =>
          have hv := T.number_lt HR.out
          have HNx : Kept (T.nums (ws.take (i + 1)) = some (vs ++ [v])) := kp (by
            rw [List.take_add_one, HX.out]
            exact T.nums_snoc _ _ _ _ HNm.out HR.out)
          have HSet : Kept (setC cs offs (vs ++ [v]) = (setC cs offs vs).set j (.int .i64 ((v : Nat) : Int))) := kp (setC_snoc _ _ _ _ _ (by rw [HVl.out]; exact HJx.out))
          go_wp2_with (first
            | (go_at_call 54; go_must (refine (tx_number x _ hxl (some v) HR.out).mono ?_); rintro e9 w9 ⟨rfl, hw9⟩; have HB9 := kp hw9
               have hk9 := HBk.out.below hw9 HBk.out.lt
               have hcf9 : w9.cell? (ad2.add i) = some (.pointer (some ⟨g, j, none⟩)) := by rw [hw9.cell (p := ad2.add i) (by rw [hadd2]; omega)]; exact hcf
               have hcj : w9.cell? ⟨g, j, none⟩ = some ((setC cs offs vs).getD j undef) := by rw [hk9.cell j, List.getD_eq_getElem?_getD, List.getElem?_eq_getElem (by rw [setC_len]; exact hjl)]; rfl
               have hfz := hk9.frozen j
               have HK9 := kp hk9
               clear hw9 hk9
               unfold numR))
          go_roundw
          case rel =>
            refine ⟨i + 1, vs ++ [v], by omega, by go_num, by simp [HVl.out], HNx.out, by rw [HSet.out]; exact HK9.out.set j _, (HOn.out.trans (Only.of_below HB9.out)).trans (Only.set rfl), fun y hy => ?_⟩
            rcases List.mem_append.1 hy with h | h
            · exact HV4.out y h
            · have e : y = v := by simpa using h
              omega
          case measure => simp [intOf]; omega
      · have hie : i = n := by omega
        go_wp2
        go_ret
        refine ⟨true, vs, rfl, HBk.out, HOn.out, (fun _ => ⟨by rw [HWl.out, HFl.out], ?_⟩), (fun h => by cases h), HV4.out⟩
        have h := HNm.out
        rwa [hie, ← HWl.out, List.take_length] at h
  · have hni : ¬ ((n : Int) = (n2 : Int)) := by omega
    clear hw hf hl hj hA hA2 hwl hfl hk
    go_enter Tryd.func38, Tryd.ntmps38
    go_wp2
    go_ret
    exact ⟨false, [], rfl, by rw [setC_nil]; exact HK.out, Only.refl _ _, (fun h => by cases h), fun _ h => absurd (by rw [← HWl.out, ← HFl.out]; exact h) hne, by simp⟩
end Go.Proofs.YtiojobajcnifpaaDoor

/- A kind's name, and the kind of a name, as the program has them, walked: Name, kindOf. -/
namespace Go.Proofs.YtiojobajcnifpaaDoor
open Go.RowKit

theorem str_nil : T.str [] = ⟨#[]⟩ := rfl

set_option maxRecDepth 100000 in
set_option maxHeartbeats 800000 in
theorem tx_name (k : Int) (w : World) (he : Env w) (hk : I64 k) (s : List UInt8) (hs : (if k < 0 ∨ 9 < k then [] else T.names.getD k.toNat []) = s) :
    Calls Tryd.prog 14 #[.int .i64 k] w fun e w' => e = .returned (.string (T.str s)) ∧ w' = w := by
  unfold I64 at hk
  by_cases h : k < 0 ∨ 9 < k
  · rw [if_pos h] at hs
    subst hs
    clear he
    rcases h with h | h
    · go_enter Tryd.func14, Tryd.ntmps14
      go_wp2
      go_ret
      exact ⟨rfl, rfl⟩
    · have h0 : ¬ k < 0 := by omega
      have h1 : 10 ≤ k := by omega
      go_enter Tryd.func14, Tryd.ntmps14
      go_wp2
      go_ret
      exact ⟨rfl, rfl⟩
  · rw [if_neg h] at hs
    obtain ⟨n, rfl⟩ : ∃ n : Nat, k = n := ⟨k.toNat, by omega⟩
    have hn : n < 10 := by omega
    have hl : T.names[n]? = some s := by
      rw [Int.toNat_natCast, List.getD_eq_getElem?_getD] at hs
      have : n < T.names.length := hn
      rw [List.getElem?_eq_getElem this] at hs ⊢
      rw [← hs]; rfl
    have hc := he.name hl
    have h0 : ¬ (n : Int) < 0 := by omega
    have h1 : ¬ (10 : Int) ≤ n := by omega
    have hadd := add_start 0 n
    clear hl he h hs
    go_enter Tryd.func14, Tryd.ntmps14
    go_wp2
    go_ret
    exact ⟨rfl, rfl⟩

theorem idx_next {s : List UInt8} {k : Nat} {x : List UInt8} (hx : T.names[k]? = some x) : T.idx s k (T.names.drop k) = if x = s then some k else T.idx s (k + 1) (T.names.drop (k + 1)) := by
  have hk : k < T.names.length := (List.getElem?_eq_some_iff.1 hx).1
  have e : T.names[k] = x := (List.getElem?_eq_some_iff.1 hx).2
  rw [List.drop_eq_getElem_cons hk, T.idx, e]

set_option maxRecDepth 100000 in
set_option maxHeartbeats 800000 in
theorem tx_kindOf (s : List UInt8) (w : World) (he : Env w) (r : Option Nat) (hr : T.idx s 0 T.names = r) :
    Calls Tryd.prog 55 #[.string (T.str s)] w fun e w' => e = .returned (.tuple #[.int .i64 ((r.getD 0 : Nat) : Int), .bool r.isSome]) ∧ w' = w := by
  have HE := kp he
  have hr0 : T.idx s 0 (T.names.drop 0) = r := hr
  clear he hr
  go_enter Tryd.func55, Tryd.ntmps55
  go_wp2_with (first
    | ((with_reducible show wpList _ _ _ (⟨some 6, _, _, _, _, _⟩ :: _) _ _); go_must (refine wpList_load_mid rfl 60 (.global 0) rfl 0 0 rfl namesV _ HE.out.names Tryd.underlying60 rfl (by kernel_rfl) ?_)))
  obtain ⟨nv, hnv⟩ : ∃ nv : List Value, namesV = nv := ⟨_, rfl⟩
  have HNV := kp hnv
  rw [hnv]
  clear hnv
  go_loopw [7] (fun v7 wr => ∃ k : Nat, k ≤ 10 ∧ v7 = .int .i64 k ∧ T.idx s k (T.names.drop k) = r ∧ wr = w) (fun v7 _ => 10 - (intOf v7).toNat)
  case atStart => exact ⟨0, by omega, rfl, hr0, rfl⟩
  case round =>
    obtain ⟨k, hk, rfl, hd, rfl⟩ := hrel
    by_cases hlt : k < 10
    · obtain ⟨x, hx⟩ : ∃ x, T.names[k]? = some x := ⟨_, List.getElem?_eq_getElem (show k < T.names.length from hlt)⟩
      have hnx := idx_next (s := s) hx
      rw [hd] at hnx
      have HX := kp hx
      have hcell : nv[k]? = some (.string (T.str x)) := by rw [← HNV.out]; unfold namesV; rw [List.getElem?_map, HX.out]; rfl
      have HNx := kp hnx
      clear hd hx hnx hr0
      by_cases e : x = s
      · subst e
        have hr2 : r = some k := by rw [HNx.out, if_pos rfl]
        subst hr2
        go_wp2_with (first
          | ((with_reducible show wpList _ _ _ (⟨some 10, _, _, _, _, _⟩ :: _) _ _); go_must (refine wpList_index_agg rfl 60 (.tmp 6) (.tmp 7) rfl 10 9 Tryd.underlying60 _ Tryd.underlying9 rfl (by kernel_rfl) nv rfl k rfl hlt _ hcell ?_)))
        go_ret2
        exact ⟨rfl, rfl⟩
      · have hne := str_not e
        have hnx2 : T.idx s (k + 1) (T.names.drop (k + 1)) = r := by rw [HNx.out, if_neg e]
        go_wp2_with (first
          | ((with_reducible show wpList _ _ _ (⟨some 10, _, _, _, _, _⟩ :: _) _ _); go_must (refine wpList_index_agg rfl 60 (.tmp 6) (.tmp 7) rfl 10 9 Tryd.underlying60 _ Tryd.underlying9 rfl (by kernel_rfl) nv rfl k rfl hlt _ hcell ?_)))
        go_roundw
        case rel => exact ⟨k + 1, by omega, by go_num, hnx2, trivial⟩
        case measure => simp [intOf]; omega
    · obtain rfl : k = 10 := by omega
      have hr2 : r = none := by rw [← hd]; rfl
      subst hr2
      clear hd
      go_wp2
      go_ret2
      exact ⟨rfl, rfl⟩
end Go.Proofs.YtiojobajcnifpaaDoor

/- Slices of structs of one-cell fields that the call made, grown by append. -/
namespace Go.Proofs.YtiojobajcnifpaaDoor
open Go.RowKit

/-- The cells of such elements, one behind the other. -/
def cellsR {α : Type} (sz : Nat) (f : α → Nat → Value) (l : List α) : List Value := l.flatMap fun x => (List.range sz).map (f x)
theorem cellsR_len {α : Type} (sz : Nat) (f : α → Nat → Value) : ∀ l : List α, (cellsR sz f l).length = l.length * sz
  | [] => by simp [cellsR]
  | x :: l => by
    have ih := cellsR_len sz f l
    unfold cellsR at ih ⊢
    rw [List.flatMap_cons, List.length_append, ih, List.length_map, List.length_range, List.length_cons, Nat.add_mul]; omega
theorem cellsR_app {α : Type} (sz : Nat) (f : α → Nat → Value) (l l' : List α) : cellsR sz f (l ++ l') = cellsR sz f l ++ cellsR sz f l' := by unfold cellsR; rw [List.flatMap_append]
theorem cellsR_at {α : Type} (sz : Nat) (f : α → Nat → Value) : ∀ (l : List α) (k j : Nat) (x : α), l[k]? = some x → j < sz → (cellsR sz f l)[k * sz + j]? = some (f x j)
  | [], k, j, x, h, _ => by simp at h
  | y :: l, 0, j, x, h, hj => by
    have e : y = x := by simpa using h
    subst e
    unfold cellsR
    rw [List.flatMap_cons, Nat.zero_mul, Nat.zero_add, List.getElem?_append_left (by simpa using hj), List.getElem?_map, List.getElem?_range hj]; rfl
  | y :: l, k + 1, j, x, h, hj => by
    have ih := cellsR_at sz f l k j x (by simpa using h) hj
    unfold cellsR at ih ⊢
    rw [List.flatMap_cons, List.getElem?_append_right (by simp [Nat.add_mul]; omega), List.length_map, List.length_range, show (k + 1) * sz + j - sz = k * sz + j by rw [Nat.add_mul]; omega]
    exact ih
/-- The value v is a slice that was made since block B, its elements (of type e, sz cells each) are l. -/
def OwnR {α : Type} (sz : Nat) (f : α → Nat → Value) (w : World) (B : Nat) (e : TypeId) (v : Value) (l : List α) : Prop := w.ownsRow B e sz v l.length (cellsR sz f l)

section
variable {α : Type} {sz : Nat} {f : α → Nat → Value} {w w' : World} {B : Nat} {e : TypeId} {v : Value} {l : List α}
theorem OwnR.nil (sz : Nat) (f : α → Nat → Value) (w : World) (B : Nat) (e : TypeId) : OwnR sz f w B e (.slice none 0 0) [] := World.ownsRow_nil w B e sz
theorem OwnR.block (h : OwnR sz f w B e v l) : ∀ k, v.ownBlock = some k → B ≤ k ∧ k < w.heap.size := World.ownsRow.lt h
theorem OwnR.far {row : Option Nat} (h : OwnR sz f w B e v l) (hg : w.grownBy w' row) (hne : v.ownBlock = none ∨ v.ownBlock ≠ row) : OwnR sz f w' B e v l := World.ownsRow.kept h hg hne
theorem OwnR.below {C : Nat} (h : OwnR sz f w B e v l) (hb : Below C w w') (hC : w.heap.size ≤ C) : OwnR sz f w' B e v l := by
  refine h.far (row := none) ⟨hb.os, hb.tape, hb.output, hb.size, fun i hi _ => hb.block i (by omega)⟩ ?_
  cases hv : v.ownBlock with
  | none => exact .inl rfl
  | some k => exact .inr (by simp)
theorem OwnR.form (h : OwnR sz f w B e v l) : ∃ A cap, v = .slice A l.length cap ∧ l.length ≤ cap ∧ cap ≤ maxLen ∧ Recs sz f w w.heap.size A l.length l := by
  rcases h.2 with ⟨hv, h0⟩ | ⟨g, cap, cur, hv, hB, hg, hn, hm, hs, ht⟩
  · refine ⟨none, 0, by rw [h0]; exact hv, by omega, by simp [maxLen], ⟨rfl, fun hn => by omega⟩⟩
  · refine ⟨_, cap, hv, hn, hm, ⟨rfl, fun _ => ⟨_, rfl, ?_, fun k x hx j hj => ?_⟩⟩⟩
    · exact (World.ownsRow.lt h g (by rw [hv]; rfl)).2
    · exact World.ownsRow.cells h (g := g) (by rw [hv]; rfl) _ _ (cellsR_at sz f l k j x hx hj)
end

/-- append of one element, which was laid in a block of its own just before. -/
theorem wpList_append_rec {P : Program} {ops : Array Oper} {rest : List Oper} {o : Oper} {a : Act} {Q : Exit → Act → World → Prop} (hgd : o.guard = none) (s x : Operand) (t : TypeId)
    (ho : o.op = .call { callee := .builtin .append, args := #[s, x], argTypes := #[t, t] })
    (B : Nat) (e : TypeId) (sz : Nat) (z : Value) (bytes : Nat) (ht : P.underlying t = some (.slice e)) (hi : (P.info? e).map (fun i => (i.zero, i.size, i.bytes)) = some (some z, sz, bytes)) (hzs : z.cells.size = sz) (hsz : 0 < sz)
    {α : Type} (f : α → Nat → Value) (hone : ∀ x j, (f x j).oneCell' = true)
    (w : World) (v : Value) (l : List α) (u : α) (hs : a.eval s = v) (hown : OwnR sz f w B e v l) (ad : Addr) (c : Nat) (hx : a.eval x = .slice (some ad) 1 c) (had : ad = ⟨w.heap.size, 0, none⟩)
    (cs : Array Value) (hcs : cs = ((List.range sz).map (f u)).toArray) (h63 : l.length + 1 ≤ maxLen) (hbytes : (l.length + 1) * bytes ≤ 140737488355328) (hB : B ≤ w.heap.size)
    (h : ∀ v' w', OwnR sz f w' B e v' (l ++ [u]) → Grew w w' v v' → wpList P ops Q rest (a.put o.dst v') w') : wpList P ops Q (o :: rest) a (w.alloc (.cells cs e)) := by
  subst had
  subst hcs
  obtain ⟨i, hi0, hzz⟩ := Option.map_eq_some_iff.1 hi
  simp only [Prod.mk.injEq] at hzz
  obtain ⟨hz, hsize, hby⟩ := hzz
  have hnb := Blk.new w e ((List.range sz).map (f u))
  refine wpList_append_lies _ hgd s x t ho B e i z sz bytes ht hi0 hz hsize hby hzs hsz v l.length (cellsR sz f l) hs (World.ownsRow.alloc hown _) _ 1 c ((List.range sz).map (f u)) hx (by simp)
    (fun j y hy => by
      have hadd : (⟨w.heap.size, 0, none⟩ : Addr).add j = ⟨w.heap.size, j, none⟩ := by unfold Addr.add; split <;> simp_all
      rw [hadd, hnb.cell j]; exact hy)
    (fun y hy => by
      obtain ⟨j, _, rfl⟩ := List.mem_map.1 hy
      exact hone u j)
    (by omega) h63 hbytes (by simp; omega) _ rfl ?_
  intro g cap w' h2 h3 h4 h5
  refine h _ w' ?_ ⟨grown_alloc _ _ _ h3, ?_⟩
  rotate_left
  · rcases h4 with h4 | h4
    · exact .inl h4.symm
    · refine .inr fun k hk => ?_
      have : g = k := by simpa [Value.ownBlock] using hk
      subst this
      rw [h4]; simp
  unfold OwnR
  rw [List.length_append, List.length_singleton, cellsR_app]
  have e1 : cellsR sz f [u] = (List.range sz).map (f u) := by simp [cellsR]
  rw [e1]
  exact h2
end Go.Proofs.YtiojobajcnifpaaDoor

/- Variables of one cell, made at a world that is a letter. -/
namespace Go.Proofs.YtiojobajcnifpaaDoor
open Go.RowKit

/-- A value of one cell in a variable of its own. -/
theorem wpList_box_one {P : Program} {ops : Array Oper} {rest : List Oper} {o : Oper} {a : Act} {w : World} {Q : Exit → Act → World → Prop} (hgd : o.guard = none) (ty : TypeId) (x : Operand) (ho : o.op = .box ty x)
    (v : Value) (hx : a.eval x = v) (hv : v.cells = #[v])
    (h : ∀ g w', w.heap.size ≤ g → Blk w' g ty [v] → Below w.heap.size w w' → wpList P ops Q rest (a.put o.dst (.pointer (some ⟨g, 0, none⟩))) w') : wpList P ops Q (o :: rest) a w := by
  refine wpList_plain hgd fun K hK => ?_
  unfold Oper.wp
  simp [execOp, ho, hx, Instr.box, newVar, newRow, hv, Result.andThen]
  exact hK _ _ (h _ _ (Nat.le_refl _) (Blk.newAt rfl rfl) ((Below.refl _ _).alloc (Nat.le_refl _) _))
/-- A new variable of one cell, zero. -/
theorem wpList_alloc_one {P : Program} {ops : Array Oper} {rest : List Oper} {o : Oper} {a : Act} {w : World} {Q : Exit → Act → World → Prop} (hgd : o.guard = none) (ty : TypeId) (ho : o.op = .alloc ty)
    (v : Value) (hz : (P.info? ty).map (·.zero) = some (some v)) (hv : v.cells = #[v])
    (h : ∀ g w', w.heap.size ≤ g → Blk w' g ty [v] → Below w.heap.size w w' → wpList P ops Q rest (a.put o.dst (.pointer (some ⟨g, 0, none⟩))) w') : wpList P ops Q (o :: rest) a w := by
  refine wpList_plain hgd fun K hK => ?_
  cases hq : P.info? ty with
  | none => simp [hq] at hz
  | some i =>
    have hz' : i.zero = some v := by simpa [hq] using hz
    unfold Oper.wp
    simp [execOp, ho, Instr.alloc, zeroValue, typeInfo, hq, hz', newVar, newRow, hv, Result.andThen]
    exact hK _ _ (h _ _ (Nat.le_refl _) (Blk.newAt rfl rfl) ((Below.refl _ _).alloc (Nat.le_refl _) _))
/-- A new block and a variable that holds the slice in it: a variable of the call's own. -/
theorem Var.new {w : World} {S : Nat → Prop} {g : Nat} {t e : TypeId} {v : Value} {xs : List Value} (hb : Blk w g t [v]) (ho : Own w 0 e v xs) (hne : v.ownBlock ≠ some g) (hg : ¬ S g) (hS : ∀ k, v.ownBlock = some k → ¬ S k) (hl : ∀ k, S k → k < w.heap.size) : Var w S g t e xs :=
  ⟨v, hb, ho, hne, hg, hS, hl⟩
end Go.Proofs.YtiojobajcnifpaaDoor
