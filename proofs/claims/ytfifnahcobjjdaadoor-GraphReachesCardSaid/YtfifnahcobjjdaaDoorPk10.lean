/- SpreadMath, SpreadP1, SpreadP2, in one text. -/
import Derived.Test.YtfifnahcobjjdaaDoorPk11
import Derived.Test.YtfifnahcobjjdaaDoorPk2
import Derived.Test.YtfifnahcobjjdaaDoorPk14
import Derived.Test.YtfifnahcobjjdaaDoorPk3
/- What is met on ways that begin somewhere, by a stack of those that are open, on plain data. -/
namespace Go.Proofs.YtfifnahcobjjdaaDoor
open Go.RowKit

namespace Sp
/-- Is the k-th met? -/
def Met (L : List Bool) (k : Nat) : Prop := L[k]? = some true
theorem Met.lt {L : List Bool} {k : Nat} (h : Met L k) : k < L.length := (List.getElem?_eq_some_iff.1 h).1
theorem met_set {L : List Bool} {i k : Nat} (hi : i < L.length) : Met (L.set i true) k ↔ k = i ∨ Met L k := by
  unfold Met
  rw [List.getElem?_set]
  by_cases e : i = k
  · subst e
    rw [if_pos rfl, if_pos hi]; simp
  · rw [if_neg e]
    constructor
    · exact .inr
    · rintro (h | h)
      · exact absurd h.symm e
      · exact h
def Step (n : Nat) (ways : Nat → List Int) (j i : Nat) : Prop := i < n ∧ (i : Int) ∈ ways j
def Reached (n : Nat) (first : List Int) (ways : Nat → List Int) (k : Nat) : Prop := k < n ∧ ∃ j : Nat, (j : Int) ∈ first ∧ j < n ∧ (j = k ∨ Q.Reach (Step n ways) n j k)
theorem Reached.step {n : Nat} {first : List Int} {ways : Nat → List Int} {k i : Nat} (h : Reached n first ways k) (hs : Step n ways k i) : Reached n first ways i := by
  obtain ⟨hk, j, hj, hjn, h1⟩ := h
  refine ⟨hs.1, j, hj, hjn, .inr ?_⟩
  rcases h1 with rfl | h1
  · exact .one hs
  · exact h1.trans hk (.one hs)

/-- The first i of l were added. -/
structure AddInv (n : Nat) (L0 : List Bool) (op0 l : List Int) (i : Nat) (L : List Bool) (op : List Int) : Prop where
  len : L.length = n
  mono : ∀ k, Met L0 k → Met L k
  new : ∀ k, Met L k → Met L0 k ∨ (k : Int) ∈ l.take i
  done : ∀ k : Nat, k < n → (k : Int) ∈ l.take i → Met L k
  opmem : ∀ x ∈ op, x ∈ op0 ∨ ∃ k : Nat, x = (k : Int) ∧ Met L k
  opsub : ∀ x ∈ op0, x ∈ op
  fresh : ∀ k : Nat, Met L k → Met L0 k ∨ (k : Int) ∈ op
  count : op.length + L.count false = op0.length + L0.count false
  le : L.count false ≤ L0.count false
theorem AddInv.start {n : Nat} {L0 : List Bool} (op0 l : List Int) (hL : L0.length = n) : AddInv n L0 op0 l 0 L0 op0 :=
  ⟨hL, fun _ h => h, fun _ h => .inl h, fun _ _ h => by simp at h, fun _ h => .inl h, fun _ h => h, fun _ h => .inl h, rfl, Nat.le_refl _⟩
theorem take_mem {l : List Int} {i : Nat} {x y : Int} (hx : l[i]? = some x) : y ∈ l.take (i + 1) ↔ y ∈ l.take i ∨ y = x := by
  rw [List.take_add_one, hx, Option.toList_some, List.mem_append, List.mem_singleton]
theorem AddInv.skip {n : Nat} {L0 L : List Bool} {op0 op l : List Int} {i : Nat} {x : Int} (h : AddInv n L0 op0 l i L op) (hx : l[i]? = some x) (hn : ∀ k : Nat, k < n → x = (k : Int) → Met L k) : AddInv n L0 op0 l (i + 1) L op := by
  refine ⟨h.len, h.mono, fun k hk => (h.new k hk).imp_right fun h1 => (take_mem hx).2 (.inl h1), fun k hk h1 => ?_, h.opmem, h.opsub, h.fresh, h.count, h.le⟩
  rcases (take_mem hx).1 h1 with h1 | h1
  · exact h.done k hk h1
  · exact hn k hk h1.symm
theorem AddInv.set {n : Nat} {L0 L : List Bool} {op0 op l : List Int} {i k : Nat} (h : AddInv n L0 op0 l i L op) (hx : l[i]? = some (k : Int)) (hk : L[k]? = some false) : AddInv n L0 op0 l (i + 1) (L.set k true) (op ++ [(k : Int)]) := by
  have hkl := (List.getElem?_eq_some_iff.1 hk).1
  have hc := count_set L k hk
  refine ⟨by rw [List.length_set]; exact h.len, fun j hj => (met_set hkl).2 (.inr (h.mono j hj)), fun j hj => ?_, fun j hj hm => ?_, fun x hx => ?_, fun x hx => List.mem_append_left _ (h.opsub x hx), fun j hj => ?_, ?_, ?_⟩
  · rcases (met_set hkl).1 hj with rfl | hj
    · exact .inr ((take_mem hx).2 (.inr rfl))
    · exact (h.new j hj).imp_right fun h1 => (take_mem hx).2 (.inl h1)
  · rcases (take_mem hx).1 hm with hm | hm
    · exact (met_set hkl).2 (.inr (h.done j hj hm))
    · exact (met_set hkl).2 (.inl (by omega))
  · rcases List.mem_append.1 hx with hx | hx
    · rcases h.opmem x hx with h1 | ⟨j, h1, h2⟩
      · exact .inl h1
      · exact .inr ⟨j, h1, (met_set hkl).2 (.inr h2)⟩
    · exact .inr ⟨k, List.mem_singleton.1 hx, (met_set hkl).2 (.inl rfl)⟩
  · rcases (met_set hkl).1 hj with rfl | hj
    · exact .inr (List.mem_append_right _ (List.mem_singleton.2 rfl))
    · exact (h.fresh j hj).imp_right fun h1 => List.mem_append_left _ h1
  · have := h.count
    rw [List.length_append, List.length_singleton]; omega
  · have := h.le; omega

structure SprInv (n : Nat) (first : List Int) (ways : Nat → List Int) (L : List Bool) (op : List Int) : Prop where
  len : L.length = n
  sound : ∀ k, Met L k → Reached n first ways k
  firstIn : ∀ j : Nat, j < n → (j : Int) ∈ first → Met L j
  opmet : ∀ x ∈ op, ∃ k : Nat, x = (k : Int) ∧ Met L k
  closed : ∀ k : Nat, Met L k → (k : Int) ∉ op → ∀ i, Step n ways k i → Met L i
  bound : op.length + L.count false ≤ n
theorem SprInv.start {n : Nat} {first : List Int} {ways : Nat → List Int} {L : List Bool} {op : List Int} (h : AddInv n (List.replicate n false) [] first first.length L op) : SprInv n first ways L op := by
  have none_ : ∀ k, ¬ Met (List.replicate n false) k := fun k hk => by
    unfold Met at hk
    rw [List.getElem?_replicate] at hk
    split at hk <;> simp at hk
  have ht : first.take first.length = first := List.take_length
  refine ⟨h.len, fun k hk => ?_, fun j hj hm => h.done j hj (by rw [ht]; exact hm), fun x hx => ?_, fun k hk hno => ?_, ?_⟩
  · have h1 := (h.new k hk).resolve_left (none_ k)
    rw [ht] at h1
    have hkn : k < n := by rw [← h.len]; exact hk.lt
    exact ⟨hkn, k, h1, hkn, .inl rfl⟩
  · rcases h.opmem x hx with h1 | h1
    · cases h1
    · exact h1
  · rcases h.fresh k hk with h1 | h1
    · exact absurd h1 (none_ k)
    · exact absurd h1 hno
  · have := h.count
    rw [this]
    simp
theorem SprInv.pop {n : Nat} {first : List Int} {ways : Nat → List Int} {L L1 : List Bool} {op op1 : List Int} {k : Nat} (h : SprInv n first ways L (op ++ [(k : Int)])) (ha : AddInv n L op (ways k) (ways k).length L1 op1) : SprInv n first ways L1 op1 := by
  have ht : (ways k).take (ways k).length = ways k := List.take_length
  have hkm : Met L k := by
    obtain ⟨j, e, hj⟩ := h.opmet (k : Int) (List.mem_append_right _ (List.mem_singleton.2 rfl))
    have : j = k := by omega
    rw [← this]; exact hj
  have hln : ∀ j, Met L1 j → j < n := fun j hj => by rw [← ha.len]; exact hj.lt
  refine ⟨ha.len, fun j hj => ?_, fun j hj hm => ha.mono j (h.firstIn j hj hm), fun x hx => ?_, fun j hj hno i hs => ?_, ?_⟩
  · rcases ha.new j hj with h1 | h1
    · exact h.sound j h1
    · rw [ht] at h1
      exact (h.sound k hkm).step ⟨hln j hj, h1⟩
  · rcases ha.opmem x hx with h1 | h1
    · obtain ⟨j, e, hj⟩ := h.opmet x (List.mem_append_left _ h1)
      exact ⟨j, e, ha.mono j hj⟩
    · exact h1
  · have hjL := (ha.fresh j hj).resolve_right hno
    by_cases hjk : j = k
    · subst hjk
      exact ha.done i hs.1 (by rw [ht]; exact hs.2)
    · refine ha.mono i (h.closed j hjL (fun hm => ?_) i hs)
      rcases List.mem_append.1 hm with hm | hm
      · exact hno (ha.opsub _ hm)
      · have := List.mem_singleton.1 hm
        omega
  · have h1 := h.bound
    have h2 := ha.count
    rw [List.length_append, List.length_singleton] at h1
    omega
theorem SprInv.done {n : Nat} {first : List Int} {ways : Nat → List Int} {L : List Bool} (h : SprInv n first ways L []) (k : Nat) : Met L k ↔ Reached n first ways k := by
  constructor
  · exact h.sound k
  · rintro ⟨_, j, hj, hjn, h1⟩
    have key : ∀ x y, Q.Reach (Step n ways) n x y → Met L x → Met L y := by
      intro x y hr
      induction hr with
      | one he => intro hx; exact h.closed _ hx (by simp) _ he
      | more he _ _ ih => intro hx; exact ih (h.closed _ hx (by simp) _ he)
    have h2 := h.firstIn j hjn hj
    rcases h1 with rfl | h1
    · exact h2
    · exact key j k h1 h2
end Sp
end Go.Proofs.YtfifnahcobjjdaaDoor

/- The program's spread: the closure that adds, walked. -/
namespace Go.Proofs.YtfifnahcobjjdaaDoor
open Go.RowKit

def boolsC (L : List Bool) : List Value := L.map Value.bool

set_option maxRecDepth 100000 in
set_option maxHeartbeats 3200000 in
theorem spread_add (S : Nat → Prop) (g0 g1 g2 r C n : Nat) (L0 : List Bool) (op0 l : List Int) (A : Option Addr) (m c : Nat) (w : World) (h0 : Blk w g0 3 [.int .i64 (n : Int)]) (h1 : Blk w g1 47 [.slice (some ⟨r, 0, none⟩) n n]) (hr : Blk w r 4 (boolsC L0)) (hL : L0.length = n)
    (hop : Var w S g2 31 3 (op0.map intV)) (hrow : Row intV w C A m l) (hS0 : S g0) (hS1 : S g1) (hSr : S r) (hSA : ∀ ad, 0 < m → A = some ad → S ad.block ∧ ad.block ≠ r) (hr0 : g0 ≠ r) (hr1 : g1 ≠ r) (hm : m ≤ 1000000) (hn6 : op0.length + L0.count false ≤ 1000000) :
    Calls Tryd.prog 26 #[.slice A m c, .pointer (some ⟨g0, 0, none⟩), .pointer (some ⟨g1, 0, none⟩), .pointer (some ⟨g2, 0, none⟩)] w fun e w' => e = .returned (.tuple #[]) ∧
      ∃ L op, Sp.AddInv n L0 op0 l l.length L op ∧ Blk w' r 4 (boolsC L) ∧ Var w' S g2 31 3 (op.map intV) ∧ Held (fun k => S k ∧ k ≠ r) w w' := by
  have H0 := kp h0; have H1 := kp h1; have HR := kp hr; have HL := kp hL; have HOp := kp hop; have HRow := kp hrow
  have HS0 := kp hS0; have HS1 := kp hS1; have HSr := kp hSr; have HSA := kp hSA; have HR0 := kp hr0; have HR1 := kp hr1
  have HLn := kp hrow.len
  clear h0 h1 hr hL hop hrow hS0 hS1 hSr hSA hr0 hr1
  go_enter Tryd.func26, Tryd.ntmps26
  go_wp2
  go_loopw [9] (fun v9 wr => ∃ (i : Nat) (L : List Bool) (op : List Int), i ≤ m ∧ v9 = .int .i64 i ∧ Sp.AddInv n L0 op0 l i L op ∧ Blk wr r 4 (boolsC L) ∧ Var wr S g2 31 3 (op.map intV) ∧ Held (fun k => S k ∧ k ≠ r) w wr) (fun v9 _ => m - (intOf v9).toNat)
  case atStart => exact ⟨0, L0, op0, by omega, rfl, Sp.AddInv.start op0 l HL.out, HR.out, HOp.out, Held.refl _ _⟩
  case round =>
    obtain ⟨i, L, op, hi, rfl, hinv, hk, hop, hh⟩ := hrel
    have HInv := kp hinv; have HK := kp hk; have HOp := kp hop; have HH := kp hh
    have hcn := (H0.out.held hh ⟨HS0.out, HR0.out⟩).cell 0
    have hcm := (H1.out.held hh ⟨HS1.out, HR1.out⟩).cell 0
    clear hinv hk hop hh
    by_cases hlt : i < m
    · obtain ⟨ad, x, rfl, _, hx, hcx⟩ := (HRow.out.heldAt HH.out HSA.out).get hlt
      rw [intV_def] at hcx
      have HX := kp hx
      clear hx
      by_cases hin : 0 ≤ x ∧ x < (n : Int)
      · obtain ⟨k, rfl⟩ : ∃ k : Nat, x = (k : Int) := ⟨x.toNat, by omega⟩
        have hkn : k < n := by omega
        have hkL : k < L.length := by rw [HInv.out.len]; exact hkn
        have hb : (decide (0 ≤ (k : Int)) && decide ((k : Int) < (n : Int))) = true := by simp; omega
        have HB := kp hb
        obtain ⟨b, hb2⟩ : ∃ b, L[k]? = some b := ⟨_, List.getElem?_eq_getElem hkL⟩
        have hcb : wr.cell? ⟨r, k, none⟩ = some (.bool b) := by
          rw [HK.out.cell k]; unfold boolsC; rw [List.getElem?_map, hb2]; rfl
        have hfb := HK.out.frozen k
        have hkn2 : (k : Int) < (n : Int) := by omega
        have HB2 := kp hb2
        clear hin hb hb2
        cases b
        · have HNew := kp (HInv.out.set HX.out HB2.out)
          have hcnt := HInv.out.count
          have hopl : op.length ≤ 1000000 := by omega
          have HGs : Kept (∀ v, wr.grownBy (wr.setCell ⟨r, k, none⟩ v) (some r)) := kp fun v => grown_set (grown_refl _ _)
          have HKs : Kept (Blk (wr.setCell ⟨r, k, none⟩ (.bool true)) r 4 (boolsC (L.set k true))) := kp (by unfold boolsC; rw [List.map_set]; exact HK.out.set k _)
          have HOps : Kept (Var (wr.setCell ⟨r, k, none⟩ (.bool true)) S g2 31 3 (op.map intV)) := kp (HOp.out.kept (HGs.out _) (fun j hj => by cases hj; exact HSr.out) (fun j hj => .inl hj))
          have HHs : Kept (Held (fun k => S k ∧ k ≠ r) w (wr.setCell ⟨r, k, none⟩ (.bool true))) := kp (HH.out.trans (Held.of_grown (HGs.out _) fun j hj => ⟨HOp.out.lt j hj.1, fun e => by cases e; exact hj.2 rfl⟩))
          clear HOp HK HH HGs hcnt
          obtain ⟨v, hblk, hown, hne, hS1', hS2', hS3'⟩ := HOps.out
          have HBk := kp hblk; have HOw := kp hown; have HNe := kp hne; have HT1 := kp hS1'; have HT2 := kp hS2'; have HT3 := kp hS3'
          have hc2 : (wr.setCell ⟨r, k, none⟩ (.bool true)).cell? ⟨g2, 0, none⟩ = some v := hblk.cell 0
          have hop64 : (op.map intV).length ≤ 1000000 := by rw [List.length_map]; exact hopl
          clear hblk hown hne hS1' hS2' hS3' HOps
          go_wp2_with (first
            | (go_at_call 27; go_must (refine (graph_among (k : Int) (n : Int) true HB.out wr).mono ?_); rintro e w5 ⟨rfl, rfl⟩)
            | (at_builtin; go_must (refine wpList_append_one rfl (.tmp 26) (.tmp 28) 31 rfl 0 3 _ _ Tryd.underlying31 int_info rfl _ v _ _ rfl HOw.out _ 1 rfl (by simp) rfl (by simp only [maxLen]; omega) (by omega) (Nat.zero_le _) ?_); intro v1 w6 hown1 hg1
               obtain ⟨HV, HHv⟩ := Var.pushed HBk.out HNe.out HT1.out HT2.out HT3.out hown1 hg1
               have HVk := kp HV; have HHk := kp HHv
               have HBr := kp ((HKs.out.grown hg1.1 (fun e => HT2.out r e.symm HSr.out)).other ⟨g2, 0, none⟩ v1 (fun e => HT1.out (by rw [← show r = g2 from e]; exact HSr.out)))
               have hf6 := (HBk.out.grown hg1.1 (fun e => HNe.out e.symm)).frozen 0
               have hc6 : w6.cell? ⟨g2, 0, none⟩ = some v := (HBk.out.grown hg1.1 (fun e => HNe.out e.symm)).cell 0
               obtain ⟨A1, c1, e1, _⟩ := hown1.form
               generalize (op.map intV ++ [Value.int IntKind.i64 (k : Int)]).length = n1 at e1
               subst e1
               clear HV HHv hown1 hg1 hc2))
          go_roundw
          case rel => exact ⟨i + 1, _, _, by omega, by go_num, HNew.out, HBr.out, by rw [List.map_append]; exact HVk.out, HHs.out.trans (HHk.out.less fun j hj => hj.1)⟩
          case measure => simp [intOf]; omega
        · have HNew := kp (HInv.out.skip HX.out fun j hj e => by
            have : k = j := by omega
            subst this
            exact HB2.out)
          go_wp2_with (go_at_call 27; go_must (refine (graph_among (k : Int) (n : Int) true HB.out wr).mono ?_); rintro e w5 ⟨rfl, rfl⟩)
          go_roundw
          case rel => exact ⟨i + 1, L, op, by omega, by go_num, HNew.out, HK.out, HOp.out, HH.out⟩
          case measure => simp [intOf]; omega
      · have HB : Kept ((decide (0 ≤ x) && decide (x < (n : Int))) = false) := kp (by
          rw [Bool.and_eq_false_iff]
          by_cases h : 0 ≤ x
          · exact .inr (by simp; omega)
          · exact .inl (by simp; omega))
        have HNew := kp (HInv.out.skip HX.out fun j hj e => absurd ⟨by omega, by omega⟩ hin)
        clear hin
        go_wp2_with (go_at_call 27; go_must (refine (graph_among x (n : Int) false HB.out wr).mono ?_); rintro e w5 ⟨rfl, rfl⟩)
        go_roundw
        case rel => exact ⟨i + 1, L, op, by omega, by go_num, HNew.out, HK.out, HOp.out, HH.out⟩
        case measure => simp [intOf]; omega
    · have hie : i = l.length := by rw [HLn.out]; omega
      have HE : Kept (Sp.AddInv n L0 op0 l l.length L op) := kp (by rw [← hie]; exact HInv.out)
      have hge : m ≤ i := by omega
      clear hlt hie
      go_wp2
      go_end0
      exact ⟨rfl, L, op, HE.out, HK.out, HOp.out, HH.out⟩
end Go.Proofs.YtfifnahcobjjdaaDoor

/- The program's spread, walked. -/
namespace Go.Proofs.YtfifnahcobjjdaaDoor
open Go.RowKit

def isF : Value → Bool
  | .bool false => true
  | _ => false
/-- How many are not met, by memory. -/
def falseCells (w : World) (r : Nat) : Nat := match w.heap[r]? with
  | some (.cells cs _ _) => cs.toList.countP isF
  | _ => 0
theorem false_cells {w : World} {r : Nat} {t : TypeId} {L : List Bool} (h : Blk w r t (boolsC L)) : falseCells w r = L.count false := by
  unfold falseCells
  rw [show w.heap[r]? = some (.cells (boolsC L).toArray t (0, 0)) from h]
  show (boolsC L).countP isF = L.count false
  unfold boolsC
  rw [List.countP_map]
  refine List.countP_congr fun b _ => ?_
  cases b <;> simp [isF]
def openLen (w : World) (g : Nat) : Nat := lenV ((w.cell? ⟨g, 0, none⟩).getD undef)
theorem open_len {w : World} {S : Nat → Prop} {g : Nat} {t e : TypeId} {xs : List Value} (h : Var w S g t e xs) : openLen w g = xs.length := by
  obtain ⟨v, h1, h2, _⟩ := h
  unfold openLen
  rw [show w.cell? ⟨g, 0, none⟩ = some v from h1.cell 0]
  obtain ⟨A, c, rfl, _⟩ := h2.form
  rfl
theorem slices_zero : (Tryd.prog.info? 31).map (·.zero) = some (some (.slice none 0 0)) := by kernel_rfl
theorem bools_zero : (Tryd.prog.info? 47).map (·.zero) = some (some (.slice none 0 0)) := by kernel_rfl


set_option maxRecDepth 100000 in
set_option maxHeartbeats 3200000 in
theorem graph_spread_reach (n m c gw : Nat) (A : Option Addr) (first : List Int) (ways : Nat → List Int) (w : World) (hrow : Row intV w w.heap.size A m first) (hn : n ≤ 1000) (hm : m ≤ 100000) (hlen : ∀ k, (ways k).length ≤ 1000)
    (hways : ∀ (k : Nat) (W : World), k < n → Below w.heap.size w W → Calls Tryd.prog 17 #[.int .i64 (k : Int), .pointer (some ⟨gw, 0, none⟩)] W fun e w' => ∃ v, e = .returned v ∧ Own w' W.heap.size 3 v ((ways k).map intV) ∧ Below W.heap.size W w') :
    Calls Tryd.prog 18 #[.int .i64 (n : Int), .slice A m c, .func (.func 17) #[] #[.pointer (some ⟨gw, 0, none⟩)]] w fun e w' => ∃ v L, e = .returned v ∧ L.length = n ∧ (∀ k, Sp.Met L k ↔ Sp.Reached n first ways k) ∧ Own w' w.heap.size 4 v (boolsC L) ∧ Below w.heap.size w w' := by
  have HRow := kp hrow; have HLe := kp hlen; have HWays := kp hways
  clear hrow hlen hways
  go_enter Tryd.func18, Tryd.ntmps18
  go_wp2_with (first
    | ((with_reducible show wpList _ _ _ (⟨some 3, _, _, _, _, _⟩ :: _) _ _); go_must (refine wpList_box_one rfl 3 (.tmp 0) rfl (.int .i64 (n : Int)) rfl rfl ?_); intro g0 w1 hg0 hk0 hw1; have hcn := hk0.cell 0; have HK0 := kp hk0; have HG0 := kp hg0; have HW1 := kp hw1; have hs1 := hw1.size; clear hg0 hk0 hw1)
    | ((with_reducible show wpList _ _ _ (⟨some 13, _, _, _, _, _⟩ :: _) _ _); go_must (refine wpList_make_blk rfl 47 (.tmp 12) (.tmp 12) rfl 4 (.bool false) 1 Tryd.underlying47 bool_info rfl .i64 .i64 n n rfl rfl (Nat.le_refl _) (by omega) (by omega) ?_); intro r w2 hr2 hk2 hw2; have HKr := kp hk2; have HR2 := kp hr2; have HK0b := kp (HK0.out.below hw2 HK0.out.lt); have HW2 := kp (HW1.out.trans (hw2.mono hs1)); have hs2 := HW2.out.size; have hz12 := hw2.size; clear hr2 hk2 hw2 hcn)
    | ((with_reducible show wpList _ _ _ (⟨some 7, _, _, _, _, _⟩ :: _) _ _); go_must (refine wpList_alloc_one rfl 47 rfl (.slice none 0 0) bools_zero rfl ?_); intro g1 w3 hg1 hk3 hw3; have HK1 := kp hk3; have HG1 := kp hg1; have HKr3 := kp (HKr.out.below hw3 HKr.out.lt); have HK03 := kp (HK0b.out.below hw3 HK0b.out.lt); have HW3 := kp (HW2.out.trans (hw3.mono hs2)); have hs3 := HW3.out.size; have hz23 := hw3.size; have hf1 := hk3.frozen 0; have hc1 := hk3.cell 0; clear hg1 hk3 hw3)
    | ((with_reducible show wpList _ _ _ (⟨some 8, _, _, _, _, _⟩ :: _) _ _); go_must (refine wpList_alloc_one rfl 31 rfl (.slice none 0 0) slices_zero rfl ?_); intro g2 w4 hg2 hk4 hw4
       have hszs : (w3.setCell ⟨g1, 0, none⟩ (.slice (some ⟨r, 0, none⟩) n n)).heap.size = w3.heap.size := by simp
       rw [hszs] at hg2
       have hr2 := HR2.out; have hg1 := HG1.out; have hg0 := HG0.out
       have hlr := HKr.out.lt; have hl0 := HK0.out.lt; have hl1 := HK1.out.lt
       have hz34 : w3.heap.size ≤ w4.heap.size := by rw [← hszs]; exact hw4.size
       have HK04 : Kept (Blk w4 g0 3 [.int .i64 (n : Int)]) := kp ((HK03.out.other _ _ (show g0 ≠ g1 by omega)).below hw4 (by rw [hszs]; omega))
       have HK14 : Kept (Blk w4 g1 47 [.slice (some ⟨r, 0, none⟩) n n]) := kp ((HK1.out.set 0 _).below hw4 (by rw [hszs]; omega))
       have HKr4 : Kept (Blk w4 r 4 (boolsC (List.replicate n false))) := kp (by unfold boolsC; rw [List.map_replicate]; exact (HKr3.out.other _ _ (show r ≠ g1 by omega)).below hw4 (by rw [hszs]; omega))
       have HV4 : Kept (Var w4 (fun k => k < w.heap.size ∨ k = g0 ∨ k = g1 ∨ k = r) g2 31 3 (([] : List Int).map intV)) := kp (Var.new hk4 (Own.nil _ _ _) (by simp [Value.ownBlock]) (by omega) (by simp [Value.ownBlock]) (by intro k hk; omega))
       have HW4 : Kept (Below w.heap.size w w4) := kp (Below.trans (⟨HW3.out.os, HW3.out.tape, HW3.out.output, by rw [hszs]; exact HW3.out.size, fun k hk => (heap_setCell_other w3 _ k _ (by show k ≠ g1; omega)).trans (HW3.out.block k hk)⟩ : Below w.heap.size w (w3.setCell ⟨g1, 0, none⟩ (.slice (some ⟨r, 0, none⟩) n n))) (hw4.mono (by rw [hszs]; omega)))
       have HDis : Kept (w.heap.size ≤ g0 ∧ g0 < r ∧ r < g1 ∧ g1 < g2) := kp ⟨by omega, by omega, by omega, by omega⟩
       clear hg2 hk4 hw4 hf1 hc1 hszs HK0 HKr HK0b HK1 HKr3 HK03 HR2 HG0 HG1 hr2 hg1 hg0 hlr hl0 hl1)
    | (go_at_call 26; go_must (refine (spread_add (fun k => k < w.heap.size ∨ k = g0 ∨ k = g1 ∨ k = r) g0 g1 g2 r w.heap.size n (List.replicate n false) [] first A m c w4 HK04.out HK14.out HKr4.out (by simp) HV4.out (HRow.out.below HW4.out) (.inr (.inl rfl)) (.inr (.inr (.inl rfl))) (.inr (.inr (.inr rfl))) (fun ad h0 e => by obtain ⟨ad2, e2, hb, _⟩ := HRow.out.cells h0; rw [e] at e2; cases e2; have := HDis.out; exact ⟨.inl hb, by omega⟩) (by have := HDis.out; omega) (by have := HDis.out; omega) (by omega) (by simp; omega)).mono ?_); rintro e w5 ⟨rfl, L5, op5, hinv5, hk5, hv5, hh5⟩
       have HI5 := kp (Sp.SprInv.start (ways := ways) hinv5); have HKr5 := kp hk5; have HV5 := kp hv5
       have HK05 := kp (HK04.out.held hh5 ⟨.inr (.inl rfl), by have := HDis.out; omega⟩); have HK15 := kp (HK14.out.held hh5 ⟨.inr (.inr (.inl rfl)), by have := HDis.out; omega⟩)
       have HW5 := kp (HW4.out.trans (hh5.less (S' := fun k => k < w.heap.size) (fun k hk => ⟨.inl hk, by have := HDis.out; omega⟩)).below)
       clear hinv5 hk5 hv5 hh5 HK04 HK14 HKr4 HV4))
  go_loopw [10] (fun _ wr => ∃ L op, Sp.SprInv n first ways L op ∧ Blk wr g0 3 [.int .i64 (n : Int)] ∧ Blk wr g1 47 [.slice (some ⟨r, 0, none⟩) n n] ∧ Blk wr r 4 (boolsC L) ∧ Var wr (fun k => k < w.heap.size ∨ k = g0 ∨ k = g1 ∨ k = r) g2 31 3 (op.map intV) ∧ Below w.heap.size w wr) (fun _ wr => 2 * falseCells wr r + openLen wr g2)
  case atStart => exact ⟨L5, op5, HI5.out, HK05.out, HK15.out, HKr5.out, HV5.out, HW5.out⟩
  case round =>
    clear HI5 HKr5 HV5 HK05 HK15 HW5 HW1 HW2 HW3 HW4
    obtain ⟨L, op, hinv, h0, h1, hr, hv, hbw⟩ := hrel
    have HInv := kp hinv; have HK0 := kp h0; have HK1 := kp h1; have HKr := kp hr; have HV := kp hv; have HBw := kp hbw
    have hszr := hbw.size
    have hbound := hinv.bound
    have HM1 := kp (false_cells hr); have HM2 := kp (open_len hv)
    clear hinv h0 h1 hr hbw
    rcases List.eq_nil_or_concat op with rfl | ⟨op', x, rfl⟩
    · obtain ⟨A2, c2, hc2, _, hnc2, hcm2, _⟩ := Var.opens (l := []) hv rfl
      have hc1 := HK1.out.cell 0
      have HDone := kp (HInv.out.done)
      have HLl := kp HInv.out.len
      have HOwn : Kept (Own wr w.heap.size 4 (.slice (some ⟨r, 0, none⟩) n n) (boolsC L)) := kp <| by
        have h := Blk.own (xs := boolsC L) HKr.out (show w.heap.size ≤ r by have := HDis.out; omega) (cap := n) (by unfold boolsC; rw [List.length_map, HInv.out.len]) (by unfold boolsC; rw [List.length_map, HInv.out.len]; exact Nat.le_refl _) (by unfold maxLen; omega) (List.take_length ..)
        unfold boolsC at h ⊢
        rw [List.length_map, HInv.out.len] at h
        exact h
      clear hv hcm2 hnc2
      go_wp2
      go_ret
      exact ⟨_, L, rfl, HLl.out, HDone.out, HOwn.out, HBw.out⟩
    · obtain ⟨j, hj⟩ : ∃ j, op'.length = j := ⟨_, rfl⟩
      rw [List.concat_eq_append] at *
      obtain ⟨k, hxk, hkm⟩ := HInv.out.opmet x (List.mem_append_right _ (List.mem_singleton.2 rfl))
      subst hxk
      have hkn : k < n := by rw [← HInv.out.len]; exact hkm.lt
      obtain ⟨A2, c2, hc2, hb2, hnc2, hcm2, hrw2, hown2, hblk2⟩ := Var.opens (l := op' ++ [(k : Int)]) (n := j + 1) hv (by rw [List.length_append, hj]; rfl)
      obtain ⟨r2, cur2, rfl, _, _, _, hr2g, hr2S⟩ := hblk2 (by omega)
      have hck : wr.cell? ⟨r2, j, none⟩ = some (.int .i64 (k : Int)) := by
        obtain ⟨ad, y, e, _, hy, hcy⟩ := hrw2.get (show j < j + 1 by omega)
        cases e
        rw [add_start] at hcy
        rw [List.getElem?_append_right (by omega), hj, Nat.sub_self] at hy
        cases hy
        rw [hcy]; rfl
      have hf2 := hb2.frozen 0
      rw [List.length_append, List.length_singleton, hj] at hbound
      unfold maxLen at hcm2
      have HPop : Kept (Var (wr.setCell ⟨g2, 0, none⟩ (.slice (some ⟨r2, 0, none⟩) j c2)) (fun k => k < w.heap.size ∨ k = g0 ∨ k = g1 ∨ k = r) g2 31 3 (op'.map intV)) := kp <| by
        refine ⟨_, hb2.set 0 _, ?_, fun e => hr2g (by cases e; rfl), hv.not, fun k hk => by cases hk; exact hr2S, fun k hk => by have := hv.lt k hk; simpa using this⟩
        have h1 := (hown2.front (m := j) (by omega)).far (grown_set (g := g2) (k := 0) (v := .slice (some ⟨r2, 0, none⟩) j c2) (grown_refl _ _)) (.inr fun e => hr2g (by cases e; rfl))
        rwa [List.map_append, List.take_left' (by rw [List.length_map, hj])] at h1
      have hnot := hv.not
      have HS6 : Kept (Held (fun k => k < w.heap.size ∨ k = g0 ∨ k = g1 ∨ k = r) wr (wr.setCell ⟨g2, 0, none⟩ (.slice (some ⟨r2, 0, none⟩) j c2))) := kp (Held.of_grown (row := some g2) (grown_set (grown_refl _ _)) fun k hk => ⟨hv.lt k hk, fun e => hnot (by cases e; exact hk)⟩)
      have hsz6 : (wr.setCell ⟨g2, 0, none⟩ (.slice (some ⟨r2, 0, none⟩) j c2)).heap.size = wr.heap.size := by simp
      have HB6 : Kept (Below w.heap.size w (wr.setCell ⟨g2, 0, none⟩ (.slice (some ⟨r2, 0, none⟩) j c2))) := kp (HBw.out.trans (HS6.out.less (S' := fun k => k < w.heap.size) (fun k hk => .inl hk)).below)
      have HM : Kept (openLen wr g2 = j + 1) := kp (by rw [HM2.out, List.length_map, List.length_append, hj]; rfl)
      have HHj := kp hj
      obtain ⟨mw, hmw⟩ : ∃ mw, (ways k).length = mw := ⟨_, rfl⟩
      have hmw1000 : mw ≤ 1000 := by rw [← hmw]; exact HLe.out k
      have HMw := kp hmw; have HKm := kp hkm; have HNot := kp hnot
      have HLtS := kp hv.lt
      clear hv hown2 hrw2 hblk2 hb2 hj hmw hkm hnot hr2S hr2g HM2 HV
      go_wp2_with (first
        | ((with_reducible show wpList _ _ _ (⟨some 30, _, _, _, _, _⟩ :: _) _ _); go_must (refine wpList_slice_front rfl 31 (.tmp 28) (.tmp 29) rfl 3 Tryd.underlying31 size1i (some ⟨r2, 0, none⟩) (j + 1) c2 rfl .i64 j rfl (by omega) ?_))
        | (go_at_call 17; go_must (refine (HWays.out k _ hkn HB6.out).mono ?_); rintro e w7 ⟨v7, rfl, hown7, hb7⟩
           obtain ⟨A7, c7, rfl, hc7, hm7, hr7⟩ := Own.readsN hown7 HMw.out
           have hlb := hown7.block
           have HA7 : Kept (∀ ad, A7 = some ad → (wr.setCell ⟨g2, 0, none⟩ (.slice (some ⟨r2, 0, none⟩) j c2)).heap.size ≤ ad.block ∧ ad.block < w7.heap.size) := kp fun ad e => by subst e; exact hlb ad.block rfl
           have hsz7 : wr.heap.size ≤ w7.heap.size := by rw [← hsz6]; exact hb7.size
           have HK07 := kp ((HK0.out.held HS6.out (.inr (.inl rfl))).below hb7 (by rw [hsz6]; exact HK0.out.lt))
           have HK17 := kp ((HK1.out.held HS6.out (.inr (.inr (.inl rfl)))).below hb7 (by rw [hsz6]; exact HK1.out.lt))
           have HKr7 := kp ((HKr.out.held HS6.out (.inr (.inr (.inr rfl)))).below hb7 (by rw [hsz6]; exact HKr.out.lt))
           have HB7 := kp (HB6.out.trans (hb7.mono (by rw [hsz6]; omega)))
           have HV7 : Kept (Var w7 (fun k => (k < w.heap.size ∨ k = g0 ∨ k = g1 ∨ k = r) ∨ (∃ ad, A7 = some ad ∧ k = ad.block)) g2 31 3 (op'.map intV)) := kp (HPop.out.below hb7 fun k hk => hk.imp_right fun ⟨ad, e1, e2⟩ => by rw [e2]; exact HA7.out ad e1)
           have HR7 := kp hr7
           clear hown7 hb7 hr7 hlb hm7)
        | (go_at_call 26; go_must (refine (spread_add (fun k => (k < w.heap.size ∨ k = g0 ∨ k = g1 ∨ k = r) ∨ (∃ ad, A7 = some ad ∧ k = ad.block)) g0 g1 g2 r w7.heap.size n L op' (ways k) A7 mw c7 w7 HK07.out HK17.out HKr7.out HInv.out.len HV7.out HR7.out (.inl (.inr (.inl rfl))) (.inl (.inr (.inr (.inl rfl)))) (.inl (.inr (.inr (.inr rfl)))) (fun ad _ e => ⟨.inr ⟨ad, e, rfl⟩, by have := (HA7.out ad e).1; rw [hsz6] at this; have := HKr.out.lt; omega⟩) (by have := HDis.out; omega) (by have := HDis.out; omega) (by omega) (by have := HHj.out; omega)).mono ?_); rintro e w8 ⟨rfl, L8, op8, hinv8, hk8, hv8, hh8⟩
           have HI8 := kp (HInv.out.pop hinv8)
           have HK08 := kp (HK07.out.held hh8 ⟨.inl (.inr (.inl rfl)), by have := HDis.out; omega⟩); have HK18 := kp (HK17.out.held hh8 ⟨.inl (.inr (.inr (.inl rfl))), by have := HDis.out; omega⟩)
           have HB8 := kp (HB7.out.trans (hh8.less (S' := fun k => k < w.heap.size) (fun k hk => ⟨.inl (.inl hk), by have := HDis.out; omega⟩)).below)
           have HV8 := kp (hv8.less (S' := fun k => k < w.heap.size ∨ k = g0 ∨ k = g1 ∨ k = r) fun k hk => .inl hk)
           have HMe : Kept (2 * falseCells w8 r + openLen w8 g2 < 2 * falseCells wr r + openLen wr g2) := kp (by
             rw [false_cells hk8, open_len hv8, HM1.out, HM.out, List.length_map]
             have h1 := hinv8.count
             have h2 := hinv8.le
             have h3 := HHj.out
             omega)
           have HKr8 := kp hk8
           clear hinv8 hk8 hv8 hh8))
      go_roundw
      case rel => exact ⟨L8, op8, HI8.out, HK08.out, HK18.out, HKr8.out, HV8.out, HB8.out⟩
      case measure => exact HMe.out
end Go.Proofs.YtfifnahcobjjdaaDoor
