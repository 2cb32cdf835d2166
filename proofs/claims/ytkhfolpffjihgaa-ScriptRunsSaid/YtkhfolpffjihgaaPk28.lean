/- RaceIn, RaceP1, in one text. -/
import Derived.Test.YtkhfolpffjihgaaPk27
import Derived.Test.YtkhfolpffjihgaaPk12
import Derived.Test.YtkhfolpffjihgaaProgRef5
import Derived.BigQuiet
namespace Go.Proofs.Ytkhfolpffjihgaa
open Go.RowKit
structure Tc where
  who : Nat
  glob : Int
  wr : Bool
instance : Inhabited Tc := ⟨⟨0, 0, false⟩⟩
def tcV (x : Tc) : Nat → Value
  | 0 => .int .i64 (x.who : Int)
  | 1 => .int .i64 x.glob
  | _ => .bool x.wr
theorem tcV_one (x : Tc) (j : Nat) : (tcV x j).oneCell' = true := by unfold tcV; split <;> rfl
structure TcAt (w : World) (a : Addr) (x : Tc) : Prop where
  who : w.cell? a = some (.int .i64 (x.who : Int))
  glob : w.cell? ⟨a.block, a.off + 1, none⟩ = some (.int .i64 x.glob)
  wr : w.cell? ⟨a.block, a.off + 2, none⟩ = some (.bool x.wr)
theorem TcAt.below {w w' : World} {B : Nat} {a : Addr} {x : Tc} (h : TcAt w a x) (hb : Below B w w') (ha : a.block < B) : TcAt w' a x := ⟨(hb.cell ha).trans h.who, (hb.cell (p := ⟨a.block, a.off + 1, none⟩) ha).trans h.glob, (hb.cell (p := ⟨a.block, a.off + 2, none⟩) ha).trans h.wr⟩
theorem tc_at {w : World} {B n : Nat} {A : Option Addr} {l : List Tc} (h : Recs 3 tcV w B A n l) {k : Nat} (hk : k < n) : ∃ ad x, A = some ad ∧ ad.block < B ∧ l[k]? = some x ∧ TcAt w (ad.add (k * 3)) x := by
  obtain ⟨ad, x, e, hb, hx, h0, hc⟩ := h.field hk
  exact ⟨ad, x, e, hb, hx, h0 (by omega), hc 1 (by omega) (by omega), hc 2 (by omega) (by omega)⟩
def races (x y : Tc) : Bool := decide (x.who ≠ y.who ∧ x.glob = y.glob ∧ (x.wr = true ∨ y.wr = true))
def tcOf (p : Pg) (c : M.Cf) (k : Nat) : Tc := ⟨k, (M.acc p c (k : Int)).1, decide ((M.acc p c (k : Int)).2 = 2)⟩
def touchesTo (p : Pg) (c : M.Cf) : Nat → List Tc
  | 0 => []
  | k + 1 => if 0 < (M.acc p c (k : Int)).2 then touchesTo p c k ++ [tcOf p c k] else touchesTo p c k
theorem touches_yes {p : Pg} {c : M.Cf} {k : Nat} (h : 0 < (M.acc p c (k : Int)).2) : touchesTo p c (k + 1) = touchesTo p c k ++ [tcOf p c k] := if_pos h
theorem touches_no {p : Pg} {c : M.Cf} {k : Nat} (h : ¬ 0 < (M.acc p c (k : Int)).2) : touchesTo p c (k + 1) = touchesTo p c k := if_neg h
theorem yH (p : Pg) (c : M.Cf) : ∀ n, (touchesTo p c n).length ≤ n
  | 0 => by simp [touchesTo]
  | n + 1 => by
    have ih := yH p c n
    unfold touchesTo
    split
    · rw [List.length_append, List.length_singleton]; omega
    · omega
theorem yW (p : Pg) (c : M.Cf) (x : Tc) : ∀ n, x ∈ touchesTo p c n ↔ ∃ k, k < n ∧ 0 < (M.acc p c (k : Int)).2 ∧ x = tcOf p c k
  | 0 => by simp [touchesTo]
  | n + 1 => by
    have ih := yW p c x n
    unfold touchesTo
    split
    · rename_i h
      rw [List.mem_append, ih, List.mem_singleton]
      constructor
      · rintro (⟨k, h1, h2, h3⟩ | h1)
        · exact ⟨k, by omega, h2, h3⟩
        · exact ⟨n, by omega, h, h1⟩
      · rintro ⟨k, h1, h2, h3⟩
        by_cases e : k = n
        · subst e; exact .inr h3
        · exact .inl ⟨k, by omega, h2, h3⟩
    · rename_i h
      rw [ih]
      constructor
      · rintro ⟨k, h1, h2, h3⟩; exact ⟨k, by omega, h2, h3⟩
      · rintro ⟨k, h1, h2, h3⟩
        by_cases e : k = n
        · subst e; exact absurd h2 h
        · exact ⟨k, by omega, h2, h3⟩
theorem touch_rise (p : Pg) (c : M.Cf) : ∀ n, (touchesTo p c n).Pairwise (fun x y => x.who < y.who)
  | 0 => by simp [touchesTo]
  | n + 1 => by
    have ih := touch_rise p c n
    unfold touchesTo
    split
    · rw [List.pairwise_append]
      refine ⟨ih, by simp, fun x hx y hy => ?_⟩
      obtain ⟨k, hk, _, rfl⟩ := (yW p c x n).1 hx
      rw [List.mem_singleton] at hy
      subst hy
      exact hk
    · exact ih
theorem xU {p : Pg} {c : M.Cf} {n i j : Nat} {x y : Tc} (hx : (touchesTo p c n)[i]? = some x) (hy : (touchesTo p c n)[j]? = some y) (h : i < j) : x.who < y.who := by
  obtain ⟨hi, rfl⟩ := List.getElem?_eq_some_iff.1 hx
  obtain ⟨hj, rfl⟩ := List.getElem?_eq_some_iff.1 hy
  exact List.pairwise_iff_getElem.1 (touch_rise p c n) i j hi hj h
theorem touch_at {p : Pg} {c : M.Cf} {n i : Nat} {x : Tc} (hx : (touchesTo p c n)[i]? = some x) : x.who < n ∧ 0 < (M.acc p c (x.who : Int)).2 ∧ x = tcOf p c x.who := by
  obtain ⟨k, h1, h2, rfl⟩ := (yW p c x n).1 (List.mem_of_getElem? hx)
  exact ⟨h1, h2, rfl⟩
theorem touch_idx {p : Pg} {c : M.Cf} {n k : Nat} (hk : k < n) (h : 0 < (M.acc p c (k : Int)).2) : ∃ i : Nat, (touchesTo p c n)[i]? = some (tcOf p c k) := List.getElem?_of_mem ((yW p c _ n).2 ⟨k, hk, h, rfl⟩)
theorem races_pair {p : Pg} {c : M.Cf} {a b : Nat} (ha : 0 < (M.acc p c (a : Int)).2) (hb : 0 < (M.acc p c (b : Int)).2) (g : Int) : M.pair p c (a : Int) (b : Int) g = (decide ((M.acc p c (a : Int)).1 = g) && races (tcOf p c a) (tcOf p c b)) := by
  have h1 := M.acc_two p c (a : Int)
  have h2 := M.acc_two p c (b : Int)
  rw [Bool.eq_iff_iff, M.pair_is, Bool.and_eq_true, decide_eq_true_eq]
  unfold races tcOf
  simp only [decide_eq_true_eq]
  constructor
  · rintro ⟨e1, _, _, e4, e5, e6⟩
    exact ⟨e5, by omega, e4, by omega⟩
  · rintro ⟨e5, e1, e4, e6⟩
    exact ⟨by omega, ha, hb, e4, e5, by omega⟩
theorem noPair_of {p : Pg} {c : M.Cf} {n a b : Nat} (_hn : c.ths.length = n) (hab : a < b) (hbn : b < n) (h : ∀ (i j : Nat) x y, i < j → (touchesTo p c n)[i]? = some x → (touchesTo p c n)[j]? = some y → x.who = a → y.who = b → races x y = false) : M.NoPair p c a b := by
  unfold M.NoPair
  cases hp : M.pair p c (a : Int) (b : Int) (M.acc p c (a : Int)).1 with
  | false => rfl
  | true =>
    obtain ⟨_, ha, hb, _⟩ := M.pair_is.1 hp
    rw [races_pair ha hb, decide_eq_true rfl, Bool.true_and] at hp
    obtain ⟨i, hi⟩ := touch_idx (n := n) (by omega) ha
    obtain ⟨j, hj⟩ := touch_idx hbn hb
    have hij : i < j := by
      rcases Nat.lt_trichotomy i j with h1 | h1 | h1
      · exact h1
      · subst h1
        have e := congrArg Tc.who (Option.some.inj (hi.symm.trans hj))
        have e2 : a = b := e
        omega
      · have e2 : b < a := xU hj hi h1
        omega
    rw [h i j _ _ hij hi hj rfl rfl] at hp
    exact absurd hp (by decide)
theorem first_some {p : Pg} {c : M.Cf} {n i j : Nat} {x y : Tc} (hn : c.ths.length = n) (hij : i < j) (hi : (touchesTo p c n)[i]? = some x) (hj : (touchesTo p c n)[j]? = some y) (hr : races x y = true)
    (hm : ∀ (i' j' : Nat) x' y', i' < j' → (touchesTo p c n)[i']? = some x' → (touchesTo p c n)[j']? = some y' → (i' < i ∨ i' = i ∧ j' < j) → races x' y' = false) : M.FirstIs p c (x.who : Int) (y.who : Int) x.glob 1 := by
  obtain ⟨hx1, hx2, hx3⟩ := touch_at hi
  obtain ⟨hy1, hy2, hy3⟩ := touch_at hj
  refine .inl ⟨rfl, x.who, y.who, rfl, rfl, by rw [hx3]; rfl, xU hi hj hij, by omega, fun h => ?_, fun a b hab hbn hl => noPair_of hn hab (by omega) fun i' j' x' y' hij' hi' hj' ea eb => ?_⟩
  · unfold M.NoPair at h
    rw [races_pair hx2 hy2, decide_eq_true rfl, Bool.true_and, ← hx3, ← hy3, hr] at h
    exact absurd h (by decide)
  · refine hm i' j' x' y' hij' hi' hj' ?_
    rcases hl with hl | ⟨hl1, hl2⟩
    · refine .inl ?_
      rcases Nat.lt_trichotomy i' i with h1 | h1 | h1
      · exact h1
      · subst h1
        have e := congrArg Tc.who (Option.some.inj (hi.symm.trans hi'))
        omega
      · have := xU hi hi' h1; omega
    · refine .inr ⟨?_, ?_⟩
      · rcases Nat.lt_trichotomy i' i with h1 | h1 | h1
        · have := xU hi' hi h1; omega
        · exact h1
        · have := xU hi hi' h1; omega
      · rcases Nat.lt_trichotomy j' j with h1 | h1 | h1
        · exact h1
        · subst h1
          have e := congrArg Tc.who (Option.some.inj (hj.symm.trans hj'))
          omega
        · have := xU hj hj' h1; omega
theorem first_none {p : Pg} {c : M.Cf} {n : Nat} (hn : c.ths.length = n) (hm : ∀ (i' j' : Nat) x' y', i' < j' → (touchesTo p c n)[i']? = some x' → (touchesTo p c n)[j']? = some y' → races x' y' = false) : M.FirstIs p c 0 0 0 0 :=
  .inr ⟨rfl, rfl, rfl, rfl, fun _ _ hab hbn => noPair_of hn hab (by omega) fun i' j' x' y' hij hi hj _ _ => hm i' j' x' y' hij hi hj⟩
theorem acc_out {p : Pg} {c : M.Cf} {t : Int} (h : M.lives c t = false) : M.acc p c t = (0, 0) := by
  unfold M.acc
  rw [if_neg (by rw [h]; intro h2; cases h2.1)]
def RivalIs (A : Option Addr) (l : List Tc) (t : Tc) (v : Value) : Prop :=
  (∃ ad i x, A = some ad ∧ l[i]? = some x ∧ races t x = true ∧ (∀ j y, j < i → l[j]? = some y → races t y = false) ∧ v = .pointer (some (ad.add (i * 3)))) ∨ (v = .pointer none ∧ ∀ y ∈ l, races t y = false)
set_option maxRecDepth 100000 in
set_option maxHeartbeats 1600000 in
theorem race_races (a b : Addr) (x y : Tc) (w : World) (hx : TcAt w a x) (hy : TcAt w b y) (r : Bool) (hr : races x y = r) :
    Calls Try.prog 77 #[.pointer (some a), .pointer (some b)] w fun e w' => e = .returned (.bool r) ∧ Below w.heap.size w w' := by
  obtain ⟨s, g, u⟩ := x
  obtain ⟨t, h, v⟩ := y
  have hx0 : w.cell? a = some (.int .i64 (s : Int)) := hx.who
  have hx1 : w.cell? ⟨a.block, a.off + 1, none⟩ = some (.int .i64 g) := hx.glob
  have hx2 : w.cell? ⟨a.block, a.off + 2, none⟩ = some (.bool u) := hx.wr
  have hy0 : w.cell? b = some (.int .i64 (t : Int)) := hy.who
  have hy1 : w.cell? ⟨b.block, b.off + 1, none⟩ = some (.int .i64 h) := hy.glob
  have hy2 : w.cell? ⟨b.block, b.off + 2, none⟩ = some (.bool v) := hy.wr
  have hr2 : decide (s ≠ t ∧ g = h ∧ (u = true ∨ v = true)) = r := hr
  clear hx hy hr
  by_cases e1 : s = t
  · have b1 : ((s : Int) != (t : Int)) = false := by rw [bne_eq_false_iff_eq]; omega
    have HR : Kept (false = r) := kp (by rw [← hr2, decide_eq_false]; intro h; exact h.1 e1)
    clear hr2 e1
    go_enter Try.func77, Try.ntmps77
    go_wp2
    go_quiet (fail)
    go_wp2
    go_ret
    exact ⟨jH HR.out, jE (Below.refl _ _) _⟩
  · have b1 : ((s : Int) != (t : Int)) = true := by rw [bne_iff_ne]; omega
    by_cases e2 : g = h
    · have b2 : (g == h) = true := by rw [beq_iff_eq]; exact e2
      cases u with
      | true =>
        have HR : Kept (true = r) := kp (by rw [← hr2, decide_eq_true ⟨e1, e2, .inl rfl⟩])
        clear hr2 e1 e2
        go_enter Try.func77, Try.ntmps77
        go_wp2
        go_quiet (fail)
        go_wp2
        go_ret
        exact ⟨jH HR.out, jE (Below.refl _ _) _⟩
      | false =>
        have HR : Kept (v = r) := kp (by rw [← hr2]; cases v <;> simp [e1, e2])
        clear hr2 e1 e2
        go_enter Try.func77, Try.ntmps77
        go_wp2
        go_quiet (fail)
        go_wp2
        go_ret
        exact ⟨jH HR.out, jE (Below.refl _ _) _⟩
    · have b2 : (g == h) = false := by rw [beq_eq_false_iff_ne]; exact e2
      have HR : Kept (false = r) := kp (by rw [← hr2, decide_eq_false]; intro h; exact e2 h.2.1)
      clear hr2 e1 e2
      go_enter Try.func77, Try.ntmps77
      go_wp2
      go_quiet (fail)
      go_wp2
      go_ret
      exact ⟨jH HR.out, jE (Below.refl _ _) _⟩
set_option maxRecDepth 100000 in
set_option maxHeartbeats 800000 in
theorem race_rival (B : Nat) (a : Addr) (t : Tc) (A : Option Addr) (n c : Nat) (l : List Tc) (w : World) (ht : TcAt w a t) (ha : a.block < B) (hr : Recs 3 tcV w B A n l) (hn : n ≤ 1000) (hB : B ≤ w.heap.size) :
    Calls Try.prog 50 #[.pointer (some a), .slice A n c] w fun e w' => ∃ v, e = .returned v ∧ RivalIs A l t v ∧ Below w.heap.size w w' := by
  have HR := kp hr
  have HLn := kp hr.len
  have HT := kp ht
  clear hr ht
  go_enter Try.func50, Try.ntmps50
  go_wp2
  go_loopw [8] (fun v8 wr => ∃ i : Nat, i ≤ n ∧ v8 = .int .i64 i ∧ (∀ j y, j < i → l[j]? = some y → races t y = false) ∧ Below w.heap.size w wr) (fun v8 _ => n - (intOf v8).toNat)
  case atStart => exact ⟨0, by omega, rfl, (fun _ _ h => by omega), Below.refl _ _⟩
  case round =>
    obtain ⟨i, hi, rfl, hbef, hbw⟩ := hrel
    have HBef := kp hbef; have HBw := kp hbw
    have hsz := hbw.size
    have HT2 := kp (HT.out.below hbw (by omega))
    have HR2 := kp (HR.out.below (hbw.mono hB))
    clear hbef hbw
    by_cases hlt : i < n
    · obtain ⟨ad, x, rfl, hab, hx, hat⟩ := tc_at HR2.out hlt
      have HAt := kp hat
      have HX := kp hx
      clear hat hx
      cases hrr : races t x
      · have HE := kp hrr
        clear hrr
        go_wp2_with (first
          | (go_at_call 77; go_must (refine (race_races a (ad.add (i * 3)) t x _ HT2.out HAt.out false HE.out).mono ?_); rintro e w2 ⟨rfl, hb2⟩; have HB2 := kp (HBw.out.trans (hb2.mono hsz)); clear hb2))
        go_roundw
        case rel =>
          refine ⟨i + 1, by omega, by go_num, fun j y hj hy => ?_, HB2.out⟩
          by_cases e : j = i
          · subst e
            rw [HX.out] at hy
            cases hy
            exact HE.out
          · exact HBef.out j y (by omega) hy
        case measure => simp [intOf]; omega
      · have HE := kp hrr
        clear hrr
        go_wp2_with (first
          | (go_at_call 77; go_must (refine (race_races a (ad.add (i * 3)) t x _ HT2.out HAt.out true HE.out).mono ?_); rintro e w2 ⟨rfl, hb2⟩; have HB2 := kp (HBw.out.trans (hb2.mono hsz)); clear hb2))
        go_ret
        exact ⟨_, rfl, .inl ⟨ad, i, x, rfl, HX.out, HE.out, HBef.out, rfl⟩, HB2.out⟩
    · have hge : n ≤ i := by omega
      clear hlt
      go_wp2
      go_ret
      refine ⟨_, rfl, .inr ⟨rfl, fun x hx => ?_⟩, HBw.out⟩
      obtain ⟨j, hj⟩ := List.getElem?_of_mem hx
      exact HBef.out j x (by have := (List.getElem?_eq_some_iff.1 hj).1; have := HLn.out; omega) hj
end Go.Proofs.Ytkhfolpffjihgaa
