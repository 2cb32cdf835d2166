/- Shelf, TextP6, TextP7, TextQ1, in one text. -/
import Derived.Shelf.Strings.BuilderK
import Derived.Shelf.LaysM
import Derived.Shelf.Strconv.Itoa3
import Derived.Shelf.Strings.Split
import Derived.Test.YtiojobajcnifpaaDoorProg
import Derived.Test.YtiojobajcnifpaaDoorTextP5
import Derived.Test.YtiojobajcnifpaaDoorPk5
/-
  DERIVED: THE SHELF's CONTRACTS AT THIS DUMP, IN PLAIN WORDS (tools/lay-plain.mjs out of 'TrydShelf.lean', which tools/lay-shelf.mjs wrote): THE SAME DECLARATIONS UNDER THE SAME NAMES: 'import', 'namespace', 'open', 'def', 'theorem' AND NOTHING ELSE: no command of the shelf's: FOR A HAND-IN. Each laying: the table of numbers ('.._ren') and one theorem, a field a fact of the dump's own or the kernel's comparison; each contract: ONE APPLICATION.
-/
namespace Go.Proofs
open Go.Shelf
def Tryd.lays169_ren : Go.Shelf.Ren := ⟨fun | 169 => 28 | n => n, fun | 70 => 61 | 9 => 9 | 0 => 0 | 72 => 63 | 37 => 44 | 127 => 97 | 3 => 3 | 5 => 5 | n => n, fun | n => n⟩
theorem Tryd.lays169 : Go.Proofs.Lays.n169 Tryd.prog Tryd.lays169_ren := {
  mixed := by kernel_rfl
  f169 := Tryd.func28.trans (congrArg some (by kernel_rfl))
  t0 := Tryd.underlying0
  a0 := Tryd.isAgg0
  z0 := Tryd.sizeOf0
  v0 := Tryd.zeroValue0
  t3 := Tryd.underlying3
  a3 := Tryd.isAgg3
  z3 := Tryd.sizeOf3
  v3 := Tryd.zeroValue3
  t9 := Tryd.underlying9
  a9 := Tryd.isAgg9
  z9 := Tryd.sizeOf9
  v9 := Tryd.zeroValue9
  t37 := Tryd.underlying44
  a37 := Tryd.isAgg44
  z37 := Tryd.sizeOf44
  v37 := Tryd.zeroValue44
  t70 := Tryd.underlying61
  a70 := Tryd.isAgg61
  z70 := Tryd.sizeOf61
  v70 := Tryd.zeroValue61
  t72 := Tryd.underlying63
  a72 := Tryd.isAgg63
  z72 := Tryd.sizeOf63
  v72 := Tryd.zeroValue63
  t127 := Tryd.underlying97
  a127 := Tryd.isAgg97
  z127 := Tryd.sizeOf97
  v127 := Tryd.zeroValue97 }
theorem Tryd.Builder_Extra_169 : Builder.Extra Tryd.prog Tryd.lays169_ren := {
  sizeBuilder := by kernel_rfl
  liesBuilder := by kernel_rfl
  t5 := Tryd.underlying5
  a5 := Tryd.isAgg5
  z5 := Tryd.sizeOf5
  v5 := Tryd.zeroValue5
  infoByte := by kernel_rfl
  cellsByte := by kernel_rfl
  sizeByte := by kernel_rfl
  neB5 := by decide }
open Go.RowKit in
/-- (*strings.Builder).String: "String returns the accumulated string.": WHATEVER THE BUILDER HOLDS; THE FORM '_k': OVER 'Lib.IsBuilderF' (a builder that 'String()' may have read), AND WITH THE FRAME THAT REACHES ABOVE THE BUILDER: 'Lib.OthersKept': every block that is not b and is no row of uint8's stands as it stood: the iterator of a range among them. (LAID: no walk: one application.) -/
theorem Tryd.Builder_String_any_k (B b : Nat) (l : List UInt8) (w : World) (h : Lib.IsBuilderF 63 5 B b (Lib.byteCells l) w) (hBw : B ≤ w.heap.size) :
    Calls Tryd.prog 28 #[.pointer (some ⟨b, 0, none⟩)] w fun e w' => e = .returned (.string ⟨l.toArray⟩) ∧ (Lib.IsBuilderF 63 5 B b (Lib.byteCells l) w' ∧ Below B w w' ∧ Lib.OthersKept 5 (some b) w w') := Any.Builder_String_any_k Tryd.lays169 Tryd.Builder_Extra_169 B b l w h hBw
def Tryd.lays171_ren : Go.Shelf.Ren := ⟨fun | 171 => 45 | 243 => 59 | 246 => 68 | 283 => 76 | 284 => 77 | 285 => 78 | 286 => 79 | 129 => 83 | 317 => 82 | 318 => 84 | 319 => 85 | 320 => 86 | 337 => 87 | 338 => 88 | n => n, fun | 3 => 3 | 9 => 9 | 2 => 2 | 4 => 4 | 171 => 125 | 0 => 0 | 53 => 126 | 37 => 44 | 5 => 5 | 173 => 129 | 212 => 138 | 51 => 100 | 20 => 20 | 213 => 139 | 46 => 124 | 232 => 142 | 233 => 143 | n => n, fun | 17 => 4 | 18 => 5 | 19 => 6 | n => n⟩
theorem Tryd.lays171 : Go.Proofs.Lays.n171 Tryd.prog Tryd.lays171_ren := {
  mixed := by kernel_rfl
  f129 := Tryd.func83.trans (congrArg some (by kernel_rfl))
  f171 := Tryd.func45.trans (congrArg some (by kernel_rfl))
  f243 := Tryd.func59.trans (congrArg some (by kernel_rfl))
  f246 := Tryd.func68.trans (congrArg some (by kernel_rfl))
  f283 := Tryd.func76.trans (congrArg some (by kernel_rfl))
  f284 := Tryd.func77.trans (congrArg some (by kernel_rfl))
  f285 := Tryd.func78.trans (congrArg some (by kernel_rfl))
  f286 := Tryd.func79.trans (congrArg some (by kernel_rfl))
  f317 := Tryd.func82.trans (congrArg some (by kernel_rfl))
  f318 := Tryd.func84.trans (congrArg some (by kernel_rfl))
  f319 := Tryd.func85.trans (congrArg some (by kernel_rfl))
  f320 := Tryd.func86.trans (congrArg some (by kernel_rfl))
  f337 := Tryd.func87.trans (congrArg some (by kernel_rfl))
  f338 := Tryd.func88.trans (congrArg some (by kernel_rfl))
  t0 := Tryd.underlying0
  a0 := Tryd.isAgg0
  z0 := Tryd.sizeOf0
  v0 := Tryd.zeroValue0
  t2 := Tryd.underlying2
  a2 := Tryd.isAgg2
  z2 := Tryd.sizeOf2
  v2 := Tryd.zeroValue2
  t3 := Tryd.underlying3
  a3 := Tryd.isAgg3
  z3 := Tryd.sizeOf3
  v3 := Tryd.zeroValue3
  t4 := Tryd.underlying4
  a4 := Tryd.isAgg4
  z4 := Tryd.sizeOf4
  v4 := Tryd.zeroValue4
  t5 := Tryd.underlying5
  a5 := Tryd.isAgg5
  z5 := Tryd.sizeOf5
  v5 := Tryd.zeroValue5
  t9 := Tryd.underlying9
  a9 := Tryd.isAgg9
  z9 := Tryd.sizeOf9
  v9 := Tryd.zeroValue9
  t20 := Tryd.underlying20
  a20 := Tryd.isAgg20
  z20 := Tryd.sizeOf20
  v20 := Tryd.zeroValue20
  t37 := Tryd.underlying44
  a37 := Tryd.isAgg44
  z37 := Tryd.sizeOf44
  v37 := Tryd.zeroValue44
  t46 := Tryd.underlying124
  a46 := Tryd.isAgg124
  z46 := Tryd.sizeOf124
  v46 := Tryd.zeroValue124
  t51 := Tryd.underlying100
  a51 := Tryd.isAgg100
  z51 := Tryd.sizeOf100
  v51 := Tryd.zeroValue100
  t53 := Tryd.underlying126
  a53 := Tryd.isAgg126
  z53 := Tryd.sizeOf126
  v53 := Tryd.zeroValue126
  t171 := Tryd.underlying125
  a171 := Tryd.isAgg125
  z171 := Tryd.sizeOf125
  v171 := Tryd.zeroValue125
  t173 := Tryd.underlying129
  a173 := Tryd.isAgg129
  z173 := Tryd.sizeOf129
  v173 := Tryd.zeroValue129
  t212 := Tryd.underlying138
  a212 := Tryd.isAgg138
  z212 := Tryd.sizeOf138
  v212 := Tryd.zeroValue138
  t213 := Tryd.underlying139
  a213 := Tryd.isAgg139
  z213 := Tryd.sizeOf139
  t232 := Tryd.underlying142
  a232 := Tryd.isAgg142
  z232 := Tryd.sizeOf142
  v232 := Tryd.zeroValue142
  t233 := Tryd.underlying143
  a233 := Tryd.isAgg143
  z233 := Tryd.sizeOf143
  v233 := Tryd.zeroValue143
  g17 := by kernel_rfl
  g18 := by kernel_rfl
  g19 := by kernel_rfl }
open Go.RowKit Go.Sort Go.Lib in
/-- THE ROAD WITHOUT THE TABLE: 0 <= i < 100: NO PREMISE ON THE WORLD, AND THE WORLD IS AS IT WAS: a row that keeps its argument in that range need list no table ('laid = []'). (LAID: no walk: one application.) -/
theorem Tryd.strconv_Itoa_small (i : Nat) (hi : i < 100) (w : World) :
    Calls Tryd.prog 45 #[.int .i64 i] w fun e w' => e = .returned (.string ⟨(Lib.decDigits i).toArray⟩) ∧ w' = w := Any.strconv_Itoa_small Tryd.lays171 i hi w
def Tryd.lays146_ren : Go.Shelf.Ren := ⟨fun | 146 => 20 | 221 => 37 | 268 => 51 | 138 => 52 | 143 => 53 | 195 => 61 | 197 => 62 | 218 => 63 | 219 => 64 | 260 => 71 | 217 => 72 | 225 => 73 | 224 => 74 | 267 => 75 | 266 => 80 | 314 => 81 | n => n, fun | 9 => 9 | 31 => 34 | 3 => 3 | 4 => 4 | 0 => 0 | 105 => 112 | 21 => 21 | 5 => 5 | 46 => 124 | 119 => 131 | 139 => 134 | 138 => 133 | 146 => 135 | 51 => 100 | n => n, fun | 1 => 1 | 3 => 2 | 4 => 3 | n => n⟩
theorem Tryd.lays146 : Go.Proofs.Lays.n146 Tryd.prog Tryd.lays146_ren := {
  mixed := by kernel_rfl
  f138 := Tryd.func52.trans (congrArg some (by kernel_rfl))
  f143 := Tryd.func53.trans (congrArg some (by kernel_rfl))
  f146 := Tryd.func20.trans (congrArg some (by kernel_rfl))
  f195 := Tryd.func61.trans (congrArg some (by kernel_rfl))
  f197 := Tryd.func62.trans (congrArg some (by kernel_rfl))
  f217 := Tryd.func72.trans (congrArg some (by kernel_rfl))
  f218 := Tryd.func63.trans (congrArg some (by kernel_rfl))
  f219 := Tryd.func64.trans (congrArg some (by kernel_rfl))
  f221 := Tryd.func37.trans (congrArg some (by kernel_rfl))
  f224 := Tryd.func74.trans (congrArg some (by kernel_rfl))
  f225 := Tryd.func73.trans (congrArg some (by kernel_rfl))
  f260 := Tryd.func71.trans (congrArg some (by kernel_rfl))
  f266 := Tryd.func80.trans (congrArg some (by kernel_rfl))
  f267 := Tryd.func75.trans (congrArg some (by kernel_rfl))
  f268 := Tryd.func51.trans (congrArg some (by kernel_rfl))
  f314 := Tryd.func81.trans (congrArg some (by kernel_rfl))
  t0 := Tryd.underlying0
  a0 := Tryd.isAgg0
  z0 := Tryd.sizeOf0
  v0 := Tryd.zeroValue0
  t3 := Tryd.underlying3
  a3 := Tryd.isAgg3
  z3 := Tryd.sizeOf3
  v3 := Tryd.zeroValue3
  t4 := Tryd.underlying4
  a4 := Tryd.isAgg4
  z4 := Tryd.sizeOf4
  v4 := Tryd.zeroValue4
  t5 := Tryd.underlying5
  a5 := Tryd.isAgg5
  z5 := Tryd.sizeOf5
  v5 := Tryd.zeroValue5
  t9 := Tryd.underlying9
  a9 := Tryd.isAgg9
  z9 := Tryd.sizeOf9
  v9 := Tryd.zeroValue9
  t21 := Tryd.underlying21
  a21 := Tryd.isAgg21
  z21 := Tryd.sizeOf21
  v21 := Tryd.zeroValue21
  t31 := Tryd.underlying34
  a31 := Tryd.isAgg34
  z31 := Tryd.sizeOf34
  v31 := Tryd.zeroValue34
  t46 := Tryd.underlying124
  a46 := Tryd.isAgg124
  z46 := Tryd.sizeOf124
  v46 := Tryd.zeroValue124
  t51 := Tryd.underlying100
  a51 := Tryd.isAgg100
  z51 := Tryd.sizeOf100
  v51 := Tryd.zeroValue100
  t105 := Tryd.underlying112
  a105 := Tryd.isAgg112
  z105 := Tryd.sizeOf112
  v105 := Tryd.zeroValue112
  t119 := Tryd.underlying131
  a119 := Tryd.isAgg131
  z119 := Tryd.sizeOf131
  t138 := Tryd.underlying133
  a138 := Tryd.isAgg133
  z138 := Tryd.sizeOf133
  v138 := Tryd.zeroValue133
  t139 := Tryd.underlying134
  a139 := Tryd.isAgg134
  z139 := Tryd.sizeOf134
  v139 := Tryd.zeroValue134
  t146 := Tryd.underlying135
  a146 := Tryd.isAgg135
  z146 := Tryd.sizeOf135
  v146 := Tryd.zeroValue135
  g1 := by kernel_rfl
  g3 := by kernel_rfl
  g4 := by kernel_rfl }
open Go.RowKit Go.Lib in
/-- strings.Split. (LAID: no walk: one application.) -/
theorem Tryd.strings_Split (s sep : ByteArray) (m : Int) (w : World) (hs : s.size < 4294967281) (hm : w.cell? ⟨1, 0, none⟩ = some (.int .i64 m)) (h1 : 1 ≤ sep.size) :
    Calls Tryd.prog 20 #[.string s, .string sep] w fun e w' =>
      e = .returned (.slice (some ⟨w.heap.size, 0, none⟩) (Lib.countB s sep + 1) (Lib.countB s sep + 1)) ∧ w' = w.alloc (.cells ((Lib.splitB sep 0 (Lib.countB s sep) s).map Value.string).toArray 9) := Any.strings_Split Tryd.lays146 (by kernel_rfl) s sep m w hs hm h1
end Go.Proofs

/- Lines and words parted by the library, and the reader's state. -/
namespace Go.Proofs.YtiojobajcnifpaaDoor
open Go.RowKit

theorem tx_split (c : UInt8) (l : List UInt8) (w : World) (hE : Env w) (hl : l.length ≤ 1000000) :
    Calls Tryd.prog 20 #[.string (T.str l), .string (T.str [c])] w fun e w' => e = .returned (.slice (some ⟨w.heap.size, 0, none⟩) (T.parts c l).length (T.parts c l).length) ∧ Blk w' w.heap.size 9 ((T.parts c l).map wordT) ∧ Below w.heap.size w w' := by
  obtain ⟨m, hm⟩ := hE.most
  refine (Tryd.strings_Split (T.str l) (T.str [c]) m w (by rw [T.str_size]; omega) hm (by rw [T.str_size]; simp)).mono ?_
  rintro e w' ⟨rfl, rfl⟩
  rw [T.countB_parts, T.splitB_parts, List.map_map]
  exact ⟨rfl, Blk.new _ _ _, (Below.refl _ _).alloc (Nat.le_refl _) _⟩

/-- The reader's block holds what was read. -/
structure Rdr (W : World) (C0 g N : Nat) (st : T.St) : Prop where
  blk : ∃ v us, Blk W g 51 (.int .i64 st.d.g :: .int .i64 st.d.l :: .int .i64 st.d.s :: v :: .bool (!st.first) :: []) ∧ Fns W C0 (fun k => k = g) v us st.d.L
  ok : I64 st.d.g ∧ I64 st.d.l ∧ I64 st.d.s
  few : st.d.L.length ≤ N ∧ ∀ l ∈ st.d.L, l.length ≤ N
theorem Rdr.more {W : World} {C0 g N M : Nat} {st : T.St} (h : Rdr W C0 g N st) (hM : N ≤ M) : Rdr W C0 g M st := ⟨h.blk, h.ok, by have := h.few.1; omega, fun l hl => by have := h.few.2 l hl; omega⟩
theorem Rdr.on {W W' : World} {C0 g N : Nat} {st : T.St} (h : Rdr W C0 g N st) (hb : Below W.heap.size W W') : Rdr W' C0 g N st := by
  obtain ⟨v, us, h1, h2⟩ := h.blk
  exact ⟨⟨v, us, h1.below hb h1.lt, h2.on hb⟩, h.ok, h.few⟩
/-- What refuses hands back. -/
def LinePost (C0 g N : Nat) (st : T.St) (ln : List UInt8) (w : World) (e : Ending) (w' : World) : Prop :=
  Only (fun k => k = g ∨ C0 ≤ k) w w' ∧ ((∃ st', T.step st ln = some st' ∧ e = .returned (.bool false) ∧ Rdr w' C0 g (N + 1) st') ∨ (T.step st ln = none ∧ e = .returned (.bool true)))

/-- Words, all in block q. -/
def Fact.words (q n : Nat) (ws : List (List UInt8)) : Fact :=
  ⟨fun v W => ∃ A c, v = .slice A n c ∧ Row wordT W W.heap.size A n ws ∧ ∀ ad, A = some ad → ad.block = q, fun _ _ _ hb ⟨A, c, h1, h2, h3⟩ => ⟨A, c, h1, (h2.below hb).more hb.size, h3⟩⟩
/-- A slice of pointers that was just made. -/
def Fact.spots (K g n : Nat) (js : List Nat) : Fact :=
  ⟨fun v W => ∃ gn, v = .slice (some ⟨gn, 0, none⟩) n n ∧ Blk W gn 65 (js.map (spotT g)) ∧ K ≤ gn, fun _ _ _ hb ⟨gn, h1, h2, h3⟩ => ⟨gn, h1, h2.below hb h2.lt, h3⟩⟩
theorem nodes_info8 : (Tryd.prog.info? 47).map (fun i => (i.zero, i.size, i.bytes)) = some (some (.slice none 0 0), 1, 24) := by kernel_rfl
theorem str_size1 : (Tryd.prog.info? 9).map (·.size) = some 1 := by kernel_rfl
end Go.Proofs.YtiojobajcnifpaaDoor

/- A line read, as the program has it, walked: refuses. -/
namespace Go.Proofs.YtiojobajcnifpaaDoor
open Go.RowKit
set_option linter.unusedVariables false

theorem T.words_tail (ln : List UInt8) : T.parts 32 ln = (T.parts 32 ln).headD [] :: (T.parts 32 ln).tail := by
  obtain ⟨p, ps, e⟩ := T.parts_pos 32 ln
  rw [e]; rfl
theorem T.lineN_push {st st' : T.St} {name : List UInt8} {ws : List (List UInt8)} (h : T.lineN st name ws = some st') : ∃ x, st'.d.L = T.push st.d.L x := by
  unfold T.lineN at h
  cases hk : T.idx name 0 T.names with
  | none => rw [hk] at h; cases h
  | some k =>
    rw [hk, Option.bind_some] at h
    split at h
    · cases hv : T.nums ws with
      | none => rw [hv] at h; cases h
      | some vs => rw [hv] at h; cases h; exact ⟨_, rfl⟩
    · cases h
theorem setC_nil2 (cs : List Value) (vs : List Nat) : setC cs [] vs = cs := by cases vs <;> rfl
theorem refuses_none {C0 g N : Nat} {st : T.St} {ln : List UInt8} {w w' : World} (h : T.step st ln = none) (ho : Only (fun k => k = g ∨ C0 ≤ k) w w') : LinePost C0 g N st ln w (.returned (.bool true)) w' := ⟨ho, .inr ⟨h, rfl⟩⟩

set_option maxRecDepth 1000000 in
set_option maxHeartbeats 8000000 in
theorem tx_refuses_empty (g C0 N : Nat) (st : T.St) (w : World) (h : Rdr w C0 g N st) : Calls Tryd.prog 21 #[.pointer (some ⟨g, 0, none⟩), .string (T.str [])] w fun e w' => LinePost C0 g N st [] w e w' := by
  have HRd := kp h
  have hnil : ((T.str []).toList == ([] : List UInt8)) = true := lit_is rfl
  clear h
  go_enter Tryd.func21, Tryd.ntmps21
  go_wp2
  go_ret
  exact ⟨Only.refl _ _, .inl ⟨st, T.step_nil st, rfl, HRd.out.more (by omega)⟩⟩
end Go.Proofs.YtiojobajcnifpaaDoor

/- A line read, as the program has it, walked: refuses, a case. -/
namespace Go.Proofs.YtiojobajcnifpaaDoor
open Go.RowKit
set_option linter.unusedVariables false

set_option maxRecDepth 1000000 in
set_option maxHeartbeats 8000000 in
theorem tx_refuses_first (g C0 N : Nat) (st : T.St) (ln : List UInt8) (w : World) (hE : Env w) (h : Rdr w C0 g N st) (hg : g < C0) (hg2 : 2 ≤ g) (hC : C0 ≤ w.heap.size) (hl : ln.length ≤ 100000) (hN : N ≤ 900000) (hne : ln ≠ []) (hfst : st.first = true) (hnm : (T.parts 32 ln).headD [] ≠ T.alibi) :
    Calls Tryd.prog 21 #[.pointer (some ⟨g, 0, none⟩), .string (T.str ln)] w fun e w' => LinePost C0 g N st ln w e w' := by
  have hnn := T.words_tail ln
  obtain ⟨name, ns, hps⟩ := T.parts_pos 32 ln
  obtain ⟨n, hn⟩ : ∃ n, ns.length = n := ⟨_, rfl⟩
  have HN := kp hn
  have HStep : Kept (T.step st ln = T.lineW st name ns) := kp (by rw [T.step_line hne, hps]; rfl)
  have HWs : Kept (∀ x ∈ ns, x.length ≤ 1000000) := kp fun x hx => by
    have := (T.parts_mem 32 ln x (by rw [hps]; exact List.mem_cons_of_mem _ hx)).2
    omega
  have hnl : n ≤ 100001 := by
    have h1 := T.parts_len 32 ln
    have h2 := List.count_le_length (a := (32 : UInt8)) (l := ln)
    rw [hps, List.length_cons, hn] at h1
    omega
  have hsp := tx_split 32 ln w hE (by omega)
  rw [hps, List.length_cons, hn] at hsp
  have HSp := kp hsp
  have hnil : ((T.str ln).toList == ([] : List UInt8)) = false := lit_not hne
  replace hnm : name ≠ T.alibi := by rw [hps] at hnm; exact hnm
  have HNm := kp hnm
  clear hnm
  obtain ⟨v, us, hk, hF⟩ := h.blk
  obtain ⟨Av, cv, hv, _⟩ := hF.own.form
  subst hv
  obtain ⟨nu, hnu⟩ : ∃ nu, us.length = nu := ⟨_, rfl⟩
  have HNu := kp hnu
  rw [hnu] at hk hF
  rw [hfst] at hk
  have HK := kp hk; have HF := kp hF; have HRd := kp h; have HE := kp hE
  have hgw : g < w.heap.size := by omega
  clear hsp hn hnu hk hF h hE hps hnn
  go_enter Tryd.func21, Tryd.ntmps21
  go_wp2_with (first
    | (go_at_call 20; go_must (refine HSp.out.mono ?_); rintro e9 w1 ⟨rfl, hk1, hw1⟩
       have HK1 := kp hk1; have HW1 := kp hw1
       have hs1 := hw1.size
       have hl1 := hk1.lt
       have HR1 : Kept (Row wordT w1 w1.heap.size (some ⟨w.heap.size, 0, none⟩) (n + 1) (name :: ns)) := kp (Blk.row (l := name :: ns) hk1 (by rw [List.length_cons, HN.out]) (Nat.le_refl _))
       have hq0 : w1.cell? ⟨w.heap.size, 0, none⟩ = some (.string (T.str name)) := by rw [hk1.cell]; rfl
       clear hk1 hw1))
  apply region_list (.is _ :: .is _ :: .is _ :: .is _ :: Fact.words w.heap.size n ns :: .is _ :: Fact.words w.heap.size n ns :: [])
    [[], [(0, 13)], [(1, 14)], [], [(3, 16)], [(2, 15)], [(4, 17)]]
    [(0, 13), (1, 14), (2, 15), (3, 16), (4, 17), (5, 6), (6, 7)] (by kernel_rfl) (by kernel_rfl)
  case hob =>
    refine ⟨?o0, ?o1, ?o2, ?o3, ?o4, ?o5, ?o6, trivial⟩
    case o0 => intro W hW; change wpList _ _ _ _ _ _; go_wp2; exact pure_post rfl rfl rfl
    case o1 => intro W hW; rintro _ rfl; change wpList _ _ _ _ _ _; go_wp2; exact pure_post rfl rfl rfl
    case o2 =>
      intro W hW; rintro _ rfl; change wpList _ _ _ _ _ _
      have hc := (hW.cell (p := ⟨w.heap.size, 0, none⟩) HK1.out.lt).trans hq0
      go_wp2; exact pure_post rfl rfl rfl
    case o3 => intro W hW; change wpList _ _ _ _ _ _; go_wp2; exact pure_post rfl rfl rfl
    case o4 =>
      intro W hW; rintro _ rfl; change wpList _ _ _ _ _ _
      refine wpList_slice_from rfl 34 (.tmp 16) (.const (.int .i64 1)) rfl 9 Tryd.underlying34 str_size1 (some ⟨w.heap.size, 0, none⟩) (n + 1) (n + 1) rfl .i64 1 rfl (by omega) (Nat.le_refl _) ?_
      intro A2 hin hrow
      have hr2 := hrow wordT W W.heap.size (name :: ns) ((HR1.out.below hW).more hW.size)
      exact made_post rfl rfl rfl (Below.refl _ _) ⟨A2, _, rfl, hr2, fun ad e => by obtain ⟨a0, e1, e2⟩ := hin ad e; cases e1; exact e2⟩
    case o5 => intro W hW; rintro _ rfl; change wpList _ _ _ _ _ _; go_wp2; exact pure_post rfl rfl rfl
    case o6 =>
      intro W hW; rintro _ ⟨A4, c4, rfl, hr4, hq4⟩; change wpList _ _ _ _ _ _
      have HR4 := kp hr4; have HQ4 := kp hq4
      clear hr4 hq4
      go_wp2; exact made_post rfl rfl rfl (Below.refl _ _) ⟨A4, c4, rfl, HR4.out, HQ4.out⟩
  case hend =>
    intro W hW; rintro _ rfl; rintro _ rfl; rintro _ rfl; rintro _ rfl; rintro _ ⟨A4, c4, rfl, _, _⟩; rintro _ rfl; rintro _ ⟨A7, c7, rfl, hr7, hq7⟩
    simp only [given, put_lit, List.set]
    have HWW : Kept (Below w.heap.size w W) := kp (HW1.out.trans (hW.mono (by omega)))
    have hsW := HWW.out.size
    have HKW := kp (HK.out.below HWW.out hgw)
    have HFW := kp (HF.out.on HWW.out)
    have HEW := kp (HE.out.on HWW.out)
    have HR7 := kp hr7; have HQ7 := kp hq7
    have hA7 : Kept (∀ ad, 0 < n → A7 = some ad → ad.block ≠ g) := kp fun ad _ e => by rw [HQ7.out ad e]; omega
    have hgW : g < W.heap.size := by omega
    have k4 : W.cell? ⟨g, 4, none⟩ = some (.bool false) := by rw [HKW.out.cell]; rfl
    have z4 : W.frozen? ⟨g, 4, none⟩ = false := HKW.out.frozen 4
    clear hr7 hq7 hq0 hnil hW
    have hno : ((T.str name).toList == ([97, 108, 105, 98, 105] : List UInt8)) = false := lit_not HNm.out
    have HNone : Kept (T.step st ln = none) := kp (by rw [HStep.out]; unfold T.lineW T.line1; rw [if_pos hfst, if_neg (fun hc => HNm.out hc.1)])
    clear hfst
    go_wp2
    try simp only [put_nil]
    go_quiet (fail)
    go_wp2
    go_ret
    exact refuses_none HNone.out (((Only.of_below HWW.out).trans (Only.set (.inl rfl))).trans ⟨rfl, rfl, rfl, Nat.le_refl _, fun _ _ _ => rfl⟩)
end Go.Proofs.YtiojobajcnifpaaDoor
