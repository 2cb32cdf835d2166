/- RaceMath, RaceIn, RaceP1, SemP1, SemP2, SemP3, SemP4, SemP5, RaceP2. -/
import Derived.Test.YtcbfghcdbmlneaaPk8
import Derived.Test.YtcbfghcdbmlneaaPk4
import Derived.Test.YtcbfghcdbmlneaaProgRef5
import Derived.BigQuiet
import Derived.Test.YtcbfghcdbmlneaaPk3
import Derived.Deep.QuietTactic
import Derived.Test.YtcbfghcdbmlneaaPk7
import Derived.Test.YtcbfghcdbmlneaaPk5
namespace Go.Proofs.Ytcbfghcdbmlneaa.M
def acc (p : Pg) (c : Cf) (t : Int) : Int × Int :=
  if lives c t = true ∧ ((node p c t.toNat).kind = 1 ∨ (node p c t.toNat).kind = 2) then ((node p c t.toNat).arg,(node p c t.toNat).kind) else (0,0)
def pair (p : Pg) (c : Cf) (a b g : Int) : Bool:=decide (a ≠ b ∧ 0 < (acc p c a).2 ∧ 0 < (acc p c b).2 ∧ (acc p c a).1 = (acc p c b).1 ∧ (acc p c a).1 = g ∧ 2 < (acc p c a).2 + (acc p c b).2)
theorem acc_two (p : Pg) (c : Cf) (t : Int) : (acc p c t).2 = 0 ∨ (acc p c t).2 = 1 ∨ (acc p c t).2 = 2:=by
  unfold acc
  split
  · rename_i h
    exact .inr h.2
  · exact .inl rfl
theorem acc_pos {p : Pg} {c : Cf} {t : Int} (h : 0 < (acc p c t).2) : lives c t = true ∧ ((node p c t.toNat).kind = 1 ∨ (node p c t.toNat).kind = 2) ∧ (acc p c t).1 = (node p c t.toNat).arg ∧ (acc p c t).2 = (node p c t.toNat).kind:=by
  unfold acc at h ⊢
  split at h
  · rename_i h1
    rw [if_pos h1]
    exact ⟨h1.1,h1.2,rfl,rfl⟩
  · exact absurd h (by decide)
theorem pair_is {p : Pg} {c : Cf} {a b g : Int} : pair p c a b g = true ↔ (a ≠ b ∧ 0 < (acc p c a).2 ∧ 0 < (acc p c b).2 ∧ (acc p c a).1 = (acc p c b).1 ∧ (acc p c a).1 = g ∧ 2 < (acc p c a).2 + (acc p c b).2):=by unfold pair;rw [decide_eq_true_eq]
theorem J1 {c : Cf} {t : Int} (h : lives c t = true) : 0 ≤ t ∧ livesN c t.toNat = true:=by
  unfold lives at h
  rw [Bool.and_eq_true,decide_eq_true_eq] at h
  exact h
theorem lives_lt_int {c : Cf} {t : Int} (h : lives c t = true) : 0 ≤ t ∧ t < (c.ths.length : Int):=by
  have h1:=J1 h
  have h2:=lives_lt h1.2
  omega
theorem acc_enabled {p : Pg} {c : Cf} {t : Int} (h : 0 < (acc p c t).2) : enabled p c t = true:=by
  obtain ⟨h1,h2,_,_⟩:=acc_pos h
  obtain ⟨h0,hl⟩:=J1 h1
  unfold enabled enabledN
  rw [decide_eq_true h0,hl,if_neg (by omega),if_neg (by omega),if_neg (by omega)];rfl
theorem acc_step {p : Pg} {c : Cf} {t : Int} (h : 0 < (acc p c t).2) (way : Bool) : step p c t way = ⟨c.ths.set t.toNat ⟨goOn (th c t.toNat).stack (node p c t.toNat).next.toNat,(th c t.toNat).slots⟩,c.owners⟩:=by
  obtain ⟨h1,h2,_,_⟩:=acc_pos h
  unfold step
  rw [if_pos (acc_enabled h)]
  unfold act
  rw [if_neg (by omega),if_neg (by omega),if_neg (by omega),if_neg (by omega),if_neg (by omega),if_neg (fun x => by omega)]
def NoPair (p : Pg) (c : Cf) (a b : Nat) : Prop:=pair p c (a : Int) (b : Int) (acc p c (a : Int)).1 = false
def FirstIs (p : Pg) (c : Cf) (x y z h : Int) : Prop :=
  (h = 1 ∧ ∃ a b : Nat,x = a ∧ y = b ∧ z = (acc p c (a : Int)).1 ∧ a < b ∧ b < c.ths.length ∧ ¬ NoPair p c a b ∧ ∀ a' b',a' < b' → b' < c.ths.length → (a' < a ∨ a' = a ∧ b' < b) → NoPair p c a' b') ∨
  (h = 0 ∧ x = 0 ∧ y = 0 ∧ z = 0 ∧ ∀ a' b',a' < b' → b' < c.ths.length → NoPair p c a' b')
theorem first_one {p : Pg} {c : Cf} {x y z h x' y' z' h' : Int} (h1 : FirstIs p c x y z h) (h2 : FirstIs p c x' y' z' h') : x = x' ∧ y = y' ∧ z = z' ∧ h = h':=by
  rcases h1 with ⟨e1,a,b,ea,eb,ez,hab,hbn,hp,hm⟩ | ⟨e1,ex,ey,ez,hn⟩
  · rcases h2 with ⟨e2,a',b',ea',eb',ez',hab',hbn',hp',hm'⟩ | ⟨e2,_,_,_,hn'⟩
    · have h3 : a = a' ∧ b = b':=by
        rcases Nat.lt_trichotomy a a' with h | h | h
        · exact absurd (hm' a b hab hbn (.inl h)) hp
        · rcases Nat.lt_trichotomy b b' with g | g | g
          · exact absurd (hm' a b hab hbn (.inr ⟨h,g⟩)) hp
          · exact ⟨h,g⟩
          · exact absurd (hm a' b' hab' hbn' (.inr ⟨h.symm,g⟩)) hp'
        · exact absurd (hm a' b' hab' hbn' (.inl h)) hp'
      obtain ⟨rfl,rfl⟩:=h3
      exact ⟨by rw [ea,ea'],by rw [eb,eb'],by rw [ez,ez'],by rw [e1,e2]⟩
    · exact absurd (hn' a b hab hbn) hp
  · rcases h2 with ⟨_,a',b',_,_,_,hab',hbn',hp',_⟩ | ⟨e2,ex',ey',ez',_⟩
    · exact absurd (hn a' b' hab' hbn') hp'
    · exact ⟨by rw [ex,ex'],by rw [ey,ey'],by rw [ez,ez'],by rw [e1,e2]⟩
end Go.Proofs.Ytcbfghcdbmlneaa.M
namespace Go.Proofs.Ytcbfghcdbmlneaa
open Go.RowKit
structure Tc where
  who : Nat
  glob : Int
  wr : Bool
instance : Inhabited Tc:=⟨⟨0,0,false⟩⟩
def tcV (x : Tc) : Nat → Value
  | 0 => .int .i64 (x.who : Int)
  | 1 => .int .i64 x.glob
  | _ => .bool x.wr
theorem tcV_one (x : Tc) (j : Nat) : (tcV x j).oneCell' = true:=by unfold tcV;split <;> rfl
structure TcAt (w : World) (a : Addr) (x : Tc) : Prop where
  who : w.cell? a = some (.int .i64 (x.who : Int))
  glob : w.cell? ⟨a.block,a.off + 1,none⟩ = some (.int .i64 x.glob)
  wr : w.cell? ⟨a.block,a.off + 2,none⟩ = some (.bool x.wr)
theorem TcAt.below {w w' : World} {B : Nat} {a : Addr} {x : Tc} (h : TcAt w a x) (hb : Below B w w') (ha : a.block < B) : TcAt w' a x:=⟨(hb.cell ha).trans h.who,(hb.cell (p:=⟨a.block,a.off + 1,none⟩) ha).trans h.glob,(hb.cell (p:=⟨a.block,a.off + 2,none⟩) ha).trans h.wr⟩
theorem X1 {w : World} {B n : Nat} {A : Option Addr} {l : List Tc} (h : Recs 3 tcV w B A n l) {k : Nat} (hk : k < n) : ∃ ad x,A = some ad ∧ ad.block < B ∧ l[k]? = some x ∧ TcAt w (ad.add (k * 3)) x:=by
  obtain ⟨ad,x,e,hb,hx,h0,hc⟩:=h.field hk
  exact ⟨ad,x,e,hb,hx,h0 (by omega),hc 1 (by omega) (by omega),hc 2 (by omega) (by omega)⟩
def races (x y : Tc) : Bool:=decide (x.who ≠ y.who ∧ x.glob = y.glob ∧ (x.wr = true ∨ y.wr = true))
def tcOf (p : Pg) (c : M.Cf) (k : Nat) : Tc:=⟨k,(M.acc p c (k : Int)).1,decide ((M.acc p c (k : Int)).2 = 2)⟩
def touchesTo (p : Pg) (c : M.Cf) : Nat → List Tc
  | 0 => []
  | k + 1 => if 0 < (M.acc p c (k : Int)).2 then touchesTo p c k ++ [tcOf p c k] else touchesTo p c k
theorem YI {p : Pg} {c : M.Cf} {k : Nat} (h : 0 < (M.acc p c (k : Int)).2) : touchesTo p c (k + 1) = touchesTo p c k ++ [tcOf p c k]:=if_pos h
theorem touches_no {p : Pg} {c : M.Cf} {k : Nat} (h : ¬ 0 < (M.acc p c (k : Int)).2) : touchesTo p c (k + 1) = touchesTo p c k:=if_neg h
theorem yG (p : Pg) (c : M.Cf) : ∀ n,(touchesTo p c n).length ≤ n
  | 0 => by simp [touchesTo]
  | n + 1 => by
    have ih:=yG p c n
    unfold touchesTo
    split
    · rw [List.length_append,List.length_singleton];omega
    · omega
theorem yR (p : Pg) (c : M.Cf) (x : Tc) : ∀ n,x ∈ touchesTo p c n ↔ ∃ k,k < n ∧ 0 < (M.acc p c (k : Int)).2 ∧ x = tcOf p c k
  | 0 => by simp [touchesTo]
  | n + 1 => by
    have ih:=yR p c x n
    unfold touchesTo
    split
    · rename_i h
      rw [List.mem_append,ih,List.mem_singleton]
      constructor
      · rintro (⟨k,h1,h2,h3⟩ | h1)
        · exact ⟨k,by omega,h2,h3⟩
        · exact ⟨n,by omega,h,h1⟩
      · rintro ⟨k,h1,h2,h3⟩
        by_cases e : k = n
        · subst e;exact .inr h3
        · exact .inl ⟨k,by omega,h2,h3⟩
    · rename_i h
      rw [ih]
      constructor
      · rintro ⟨k,h1,h2,h3⟩;exact ⟨k,by omega,h2,h3⟩
      · rintro ⟨k,h1,h2,h3⟩
        by_cases e : k = n
        · subst e;exact absurd h2 h
        · exact ⟨k,by omega,h2,h3⟩
theorem LT (p : Pg) (c : M.Cf) : ∀ n,(touchesTo p c n).Pairwise (fun x y => x.who < y.who)
  | 0 => by simp [touchesTo]
  | n + 1 => by
    have ih:=LT p c n
    unfold touchesTo
    split
    · rw [List.pairwise_append]
      refine ⟨ih,by simp,fun x hx y hy => ?_⟩
      obtain ⟨k,hk,_,rfl⟩:=(yR p c x n).1 hx
      rw [List.mem_singleton] at hy
      subst hy
      exact hk
    · exact ih
theorem yS {p : Pg} {c : M.Cf} {n i j : Nat} {x y : Tc} (hx : (touchesTo p c n)[i]? = some x) (hy : (touchesTo p c n)[j]? = some y) (h : i < j) : x.who < y.who:=by
  obtain ⟨hi,rfl⟩:=List.getElem?_eq_some_iff.1 hx
  obtain ⟨hj,rfl⟩:=List.getElem?_eq_some_iff.1 hy
  exact List.pairwise_iff_getElem.1 (LT p c n) i j hi hj h
theorem uP {p : Pg} {c : M.Cf} {n i : Nat} {x : Tc} (hx : (touchesTo p c n)[i]? = some x) : x.who < n ∧ 0 < (M.acc p c (x.who : Int)).2 ∧ x = tcOf p c x.who:=by
  obtain ⟨k,h1,h2,rfl⟩:=(yR p c x n).1 (List.mem_of_getElem? hx)
  exact ⟨h1,h2,rfl⟩
theorem QZ {p : Pg} {c : M.Cf} {n k : Nat} (hk : k < n) (h : 0 < (M.acc p c (k : Int)).2) : ∃ i : Nat,(touchesTo p c n)[i]? = some (tcOf p c k):=List.getElem?_of_mem ((yR p c _ n).2 ⟨k,hk,h,rfl⟩)
theorem vZ {p : Pg} {c : M.Cf} {a b : Nat} (ha : 0 < (M.acc p c (a : Int)).2) (hb : 0 < (M.acc p c (b : Int)).2) (g : Int) : M.pair p c (a : Int) (b : Int) g = (decide ((M.acc p c (a : Int)).1 = g) && races (tcOf p c a) (tcOf p c b)):=by
  have h1:=M.acc_two p c (a : Int)
  have h2:=M.acc_two p c (b : Int)
  rw [Bool.eq_iff_iff,M.pair_is,Bool.and_eq_true,decide_eq_true_eq]
  unfold races tcOf
  simp only [decide_eq_true_eq]
  constructor
  · rintro ⟨e1,_,_,e4,e5,e6⟩
    exact ⟨e5,by omega,e4,by omega⟩
  · rintro ⟨e5,e1,e4,e6⟩
    exact ⟨by omega,ha,hb,e4,e5,by omega⟩
theorem XE {p : Pg} {c : M.Cf} {n a b : Nat} (_hn : c.ths.length = n) (hab : a < b) (hbn : b < n) (h : ∀ (i j : Nat) x y,i < j → (touchesTo p c n)[i]? = some x → (touchesTo p c n)[j]? = some y → x.who = a → y.who = b → races x y = false) : M.NoPair p c a b:=by
  unfold M.NoPair
  cases hp : M.pair p c (a : Int) (b : Int) (M.acc p c (a : Int)).1 with
  | false => rfl
  | true =>
    obtain ⟨_,ha,hb,_⟩:=M.pair_is.1 hp
    rw [vZ ha hb,decide_eq_true rfl,Bool.true_and] at hp
    obtain ⟨i,hi⟩:=QZ (n:=n) (by omega) ha
    obtain ⟨j,hj⟩:=QZ hbn hb
    have hij : i < j:=by
      rcases Nat.lt_trichotomy i j with h1 | h1 | h1
      · exact h1
      · subst h1
        have e:=congrArg Tc.who (Option.some.inj (hi.symm.trans hj))
        have e2 : a = b:=e
        omega
      · have e2 : b < a:=yS hj hi h1
        omega
    rw [h i j _ _ hij hi hj rfl rfl] at hp
    exact absurd hp (by decide)
theorem first_some {p : Pg} {c : M.Cf} {n i j : Nat} {x y : Tc} (hn : c.ths.length = n) (hij : i < j) (hi : (touchesTo p c n)[i]? = some x) (hj : (touchesTo p c n)[j]? = some y) (hr : races x y = true)
    (hm : ∀ (i' j' : Nat) x' y',i' < j' → (touchesTo p c n)[i']? = some x' → (touchesTo p c n)[j']? = some y' → (i' < i ∨ i' = i ∧ j' < j) → races x' y' = false) : M.FirstIs p c (x.who : Int) (y.who : Int) x.glob 1:=by
  obtain ⟨hx1,hx2,hx3⟩:=uP hi
  obtain ⟨hy1,hy2,hy3⟩:=uP hj
  refine .inl ⟨rfl,x.who,y.who,rfl,rfl,by rw [hx3];rfl,yS hi hj hij,by omega,fun h => ?_,fun a b hab hbn hl => XE hn hab (by omega) fun i' j' x' y' hij' hi' hj' ea eb => ?_⟩
  · unfold M.NoPair at h
    rw [vZ hx2 hy2,decide_eq_true rfl,Bool.true_and,← hx3,← hy3,hr] at h
    exact absurd h (by decide)
  · refine hm i' j' x' y' hij' hi' hj' ?_
    rcases hl with hl | ⟨hl1,hl2⟩
    · refine .inl ?_
      rcases Nat.lt_trichotomy i' i with h1 | h1 | h1
      · exact h1
      · subst h1
        have e:=congrArg Tc.who (Option.some.inj (hi.symm.trans hi'))
        omega
      · have:=yS hi hi' h1;omega
    · refine .inr ⟨?_,?_⟩
      · rcases Nat.lt_trichotomy i' i with h1 | h1 | h1
        · have:=yS hi' hi h1;omega
        · exact h1
        · have:=yS hi hi' h1;omega
      · rcases Nat.lt_trichotomy j' j with h1 | h1 | h1
        · exact h1
        · subst h1
          have e:=congrArg Tc.who (Option.some.inj (hj.symm.trans hj'))
          omega
        · have:=yS hj hj' h1;omega
theorem first_none {p : Pg} {c : M.Cf} {n : Nat} (hn : c.ths.length = n) (hm : ∀ (i' j' : Nat) x' y',i' < j' → (touchesTo p c n)[i']? = some x' → (touchesTo p c n)[j']? = some y' → races x' y' = false) : M.FirstIs p c 0 0 0 0 :=
  .inr ⟨rfl,rfl,rfl,rfl,fun _ _ hab hbn => XE hn hab (by omega) fun i' j' x' y' hij hi hj _ _ => hm i' j' x' y' hij hi hj⟩
theorem acc_out {p : Pg} {c : M.Cf} {t : Int} (h : M.lives c t = false) : M.acc p c t = (0,0):=by
  unfold M.acc
  rw [if_neg (by rw [h];intro h2;cases h2.1)]
theorem QD {p : Pg} {c : M.Cf} {a b g : Int} (h : (M.acc p c a).2 = 0 ∨ (M.acc p c b).2 = 0) : M.pair p c a b g = false:=by
  cases hp : M.pair p c a b g with
  | false => rfl
  | true =>
    obtain ⟨_,ha,hb,_⟩:=M.pair_is.1 hp
    rcases h with h | h <;> omega
theorem acc_none {p : Pg} {c : M.Cf} {n : Nat} (hn : c.ths.length = n) {t : Int} (h : ∀ x ∈ touchesTo p c n,((x.who : Nat) : Int) ≠ t) : (M.acc p c t).2 = 0:=by
  rcases M.acc_two p c t with h0 | h0
  · exact h0
  · exfalso
    have hp : 0 < (M.acc p c t).2:=by omega
    obtain ⟨h1,_⟩:=M.acc_pos hp
    obtain ⟨h2,h3⟩:=M.lives_lt_int h1
    obtain ⟨k,rfl⟩ : ∃ k : Nat,t = (k : Int):=⟨t.toNat,by omega⟩
    exact h _ ((yR p c (tcOf p c k) n).2 ⟨k,by omega,hp,rfl⟩) rfl
def FindIs (A : Option Addr) (l : List Tc) (who : Int) (v : Value) : Prop :=
  (∃ ad i x,A = some ad ∧ l[i]? = some x ∧ ((x.who : Nat) : Int) = who ∧ v = .pointer (some (ad.add (i * 3)))) ∨ (v = .pointer none ∧ ∀ x ∈ l,((x.who : Nat) : Int) ≠ who)
def RivalIs (A : Option Addr) (l : List Tc) (t : Tc) (v : Value) : Prop :=
  (∃ ad i x,A = some ad ∧ l[i]? = some x ∧ races t x = true ∧ (∀ j y,j < i → l[j]? = some y → races t y = false) ∧ v = .pointer (some (ad.add (i * 3)))) ∨ (v = .pointer none ∧ ∀ y ∈ l,races t y = false)
set_option maxRecDepth 100000 in
set_option maxHeartbeats 1600000 in
theorem uA (a b : Addr) (x y : Tc) (w : World) (hx : TcAt w a x) (hy : TcAt w b y) (r : Bool) (hr : races x y = r) :
    Calls Try.prog 67 #[.pointer (some a),.pointer (some b)] w fun e w' => e = .returned (.bool r) ∧ Below w.heap.size w w':=by
  obtain ⟨s,g,u⟩:=x
  obtain ⟨t,h,v⟩:=y
  have hx0 : w.cell? a = some (.int .i64 (s : Int)):=hx.who
  have hx1 : w.cell? ⟨a.block,a.off + 1,none⟩ = some (.int .i64 g):=hx.glob
  have hx2 : w.cell? ⟨a.block,a.off + 2,none⟩ = some (.bool u):=hx.wr
  have hy0 : w.cell? b = some (.int .i64 (t : Int)):=hy.who
  have hy1 : w.cell? ⟨b.block,b.off + 1,none⟩ = some (.int .i64 h):=hy.glob
  have hy2 : w.cell? ⟨b.block,b.off + 2,none⟩ = some (.bool v):=hy.wr
  have hr2 : decide (s ≠ t ∧ g = h ∧ (u = true ∨ v = true)) = r:=hr
  clear hx hy hr
  by_cases e1 : s = t
  · have b1 : ((s : Int) != (t : Int)) = false:=by rw [bne_eq_false_iff_eq];omega
    have HR : Kept (false = r):=kp (by rw [← hr2,decide_eq_false];intro h;exact h.1 e1)
    clear hr2 e1
    go_enter Try.func67,Try.ntmps67
    go_wp2
    go_quiet (fail)
    go_wp2
    go_ret
    exact ⟨jQ HR.out,below_drewN (Below.refl _ _) _⟩
  · have b1 : ((s : Int) != (t : Int)) = true:=by rw [bne_iff_ne];omega
    by_cases e2 : g = h
    · have b2 : (g == h) = true:=by rw [beq_iff_eq];exact e2
      cases u with
      | true =>
        have HR : Kept (true = r):=kp (by rw [← hr2,decide_eq_true ⟨e1,e2,.inl rfl⟩])
        clear hr2 e1 e2
        go_enter Try.func67,Try.ntmps67
        go_wp2
        go_quiet (fail)
        go_wp2
        go_ret
        exact ⟨jQ HR.out,below_drewN (Below.refl _ _) _⟩
      | false =>
        have HR : Kept (v = r):=kp (by rw [← hr2];cases v <;> simp [e1,e2])
        clear hr2 e1 e2
        go_enter Try.func67,Try.ntmps67
        go_wp2
        go_quiet (fail)
        go_wp2
        go_ret
        exact ⟨jQ HR.out,below_drewN (Below.refl _ _) _⟩
    · have b2 : (g == h) = false:=by rw [beq_eq_false_iff_ne];exact e2
      have HR : Kept (false = r):=kp (by rw [← hr2,decide_eq_false];intro h;exact e2 h.2.1)
      clear hr2 e1 e2
      go_enter Try.func67,Try.ntmps67
      go_wp2
      go_quiet (fail)
      go_wp2
      go_ret
      exact ⟨jQ HR.out,below_drewN (Below.refl _ _) _⟩
set_option maxRecDepth 100000 in
set_option maxHeartbeats 800000 in
theorem X6 (B : Nat) (A : Option Addr) (n c : Nat) (l : List Tc) (who : Int) (w : World) (hr : Recs 3 tcV w B A n l) (hn : n ≤ 1000) :
    Calls Try.prog 66 #[.slice A n c,.int .i64 who] w fun e w' => ∃ v,e = .returned v ∧ FindIs A l who v ∧ w = w':=by
  have HR:=kp hr
  have HLn:=kp hr.len
  clear hr
  go_enter Try.func66,Try.ntmps66
  go_wp2
  go_loop [8] (fun v8 => ∃ i : Nat,i ≤ n ∧ v8 = .int .i64 i ∧ ∀ j x,j < i → l[j]? = some x → ((x.who : Nat) : Int) ≠ who) (fun v8 => n - (intOf v8).toNat)
  case atStart => exact ⟨0,by omega,rfl,fun _ _ h => by omega⟩
  case round =>
    obtain ⟨i,hi,rfl,hbef⟩:=hrel
    have HBef:=kp hbef
    clear hbef
    by_cases hlt : i < n
    · obtain ⟨ad,x,rfl,_,hx,hat⟩:=X1 HR.out hlt
      have hx0:=hat.who
      have HX:=kp hx
      clear hat hx
      by_cases he : ((x.who : Nat) : Int) = who
      · have hb : (((x.who : Nat) : Int) == who) = true:=by rw [beq_iff_eq];exact he
        have HE:=kp he
        clear he
        go_wp2
        go_ret
        exact ⟨_,rfl,.inl ⟨ad,i,x,rfl,HX.out,HE.out,rfl⟩,rfl⟩
      · have hb : (((x.who : Nat) : Int) == who) = false:=by rw [beq_eq_false_iff_ne];exact he
        have HE:=kp he
        clear he
        go_wp2
        go_round
        case rel =>
          refine ⟨i + 1,by omega,by go_num,fun j y hj hy => ?_⟩
          by_cases e : j = i
          · subst e
            rw [HX.out] at hy
            cases hy
            exact HE.out
          · exact HBef.out j y (by omega) hy
        case measure => simp [intOf];omega
    · have hge : n ≤ i:=by omega
      clear hlt
      go_wp2
      go_ret
      refine ⟨_,rfl,.inr ⟨rfl,fun x hx => ?_⟩,rfl⟩
      obtain ⟨j,hj⟩:=List.getElem?_of_mem hx
      exact HBef.out j x (by have:=(List.getElem?_eq_some_iff.1 hj).1;have:=HLn.out;omega) hj
set_option maxRecDepth 100000 in
set_option maxHeartbeats 800000 in
theorem Q3 (B : Nat) (a : Addr) (t : Tc) (A : Option Addr) (n c : Nat) (l : List Tc) (w : World) (ht : TcAt w a t) (ha : a.block < B) (hr : Recs 3 tcV w B A n l) (hn : n ≤ 1000) (hB : B ≤ w.heap.size) :
    Calls Try.prog 70 #[.pointer (some a),.slice A n c] w fun e w' => ∃ v,e = .returned v ∧ RivalIs A l t v ∧ Below w.heap.size w w':=by
  have HR:=kp hr
  have HLn:=kp hr.len
  have HT:=kp ht
  clear hr ht
  go_enter Try.func70,Try.ntmps70
  go_wp2
  go_loopw [8] (fun v8 wr => ∃ i : Nat,i ≤ n ∧ v8 = .int .i64 i ∧ (∀ j y,j < i → l[j]? = some y → races t y = false) ∧ Below w.heap.size w wr) (fun v8 _ => n - (intOf v8).toNat)
  case atStart => exact ⟨0,by omega,rfl,(fun _ _ h => by omega),Below.refl _ _⟩
  case round =>
    obtain ⟨i,hi,rfl,hbef,hbw⟩:=hrel
    have HBef:=kp hbef;have HBw:=kp hbw
    have hsz:=hbw.size
    have HT2:=kp (HT.out.below hbw (by omega))
    have HR2:=kp (HR.out.below (hbw.mono hB))
    clear hbef hbw
    by_cases hlt : i < n
    · obtain ⟨ad,x,rfl,hab,hx,hat⟩:=X1 HR2.out hlt
      have HAt:=kp hat
      have HX:=kp hx
      clear hat hx
      cases hrr : races t x
      · have HE:=kp hrr
        clear hrr
        go_wp2_with (first
          | (go_at_call 67;go_must (refine (uA a (ad.add (i * 3)) t x _ HT2.out HAt.out false HE.out).mono ?_);rintro e w2 ⟨rfl,hb2⟩;have HB2:=kp (HBw.out.trans (hb2.mono hsz));clear hb2))
        go_roundw
        case rel =>
          refine ⟨i + 1,by omega,by go_num,fun j y hj hy => ?_,HB2.out⟩
          by_cases e : j = i
          · subst e
            rw [HX.out] at hy
            cases hy
            exact HE.out
          · exact HBef.out j y (by omega) hy
        case measure => simp [intOf];omega
      · have HE:=kp hrr
        clear hrr
        go_wp2_with (first
          | (go_at_call 67;go_must (refine (uA a (ad.add (i * 3)) t x _ HT2.out HAt.out true HE.out).mono ?_);rintro e w2 ⟨rfl,hb2⟩;have HB2:=kp (HBw.out.trans (hb2.mono hsz));clear hb2))
        go_ret
        exact ⟨_,rfl,.inl ⟨ad,i,x,rfl,HX.out,HE.out,HBef.out,rfl⟩,HB2.out⟩
    · have hge : n ≤ i:=by omega
      clear hlt
      go_wp2
      go_ret
      refine ⟨_,rfl,.inr ⟨rfl,fun x hx => ?_⟩,HBw.out⟩
      obtain ⟨j,hj⟩:=List.getElem?_of_mem hx
      exact HBef.out j x (by have:=(List.getElem?_eq_some_iff.1 hj).1;have:=HLn.out;omega) hj
set_option maxRecDepth 100000 in
set_option maxHeartbeats 800000 in
theorem vI (n c : Int) (_hn : I64 n) (_hc : I64 c) (b : Bool) (hb : decide (0 ≤ n ∧ n < c) = b) (w : World) :
    Calls Try.prog 103 #[.int .i64 n,.int .i64 c] w fun e w' => e = .returned (.bool b) ∧ w = w':=by
  subst hb
  by_cases h1 : 0 ≤ n
  · by_cases h2 : n < c
    · rw [decide_eq_true (show 0 ≤ n ∧ n < c from ⟨h1,h2⟩)]
      go_enter Try.func103,Try.ntmps103
      go_wp2
      go_ret
      exact ⟨rfl,rfl⟩
    · rw [decide_eq_false (show ¬ (0 ≤ n ∧ n < c) from fun h => h2 h.2)]
      go_enter Try.func103,Try.ntmps103
      go_wp2
      go_ret
      exact ⟨rfl,rfl⟩
  · rw [decide_eq_false (show ¬ (0 ≤ n ∧ n < c) from fun h => h1 h.1)]
    go_enter Try.func103,Try.ntmps103
    go_wp2
    go_ret
    exact ⟨rfl,rfl⟩
set_option maxRecDepth 100000 in
set_option maxHeartbeats 800000 in
theorem LV (n : Nat) (hn : n ≤ 1000) (w : World) :
    Calls Try.prog 116 #[.int .i64 (n : Int)] w fun e w' => e = .returned (.int .i64 ((n + 1 : Nat) : Int)) ∧ w = w':=by
  go_enter Try.func116,Try.ntmps116
  go_wp2
  go_ret
  exact ⟨lC (by omega),rfl⟩
set_option maxRecDepth 100000 in
set_option maxHeartbeats 800000 in
theorem sem_unmark (n : Nat) (hn : n ≤ 1000) (w : World) :
    Calls Try.prog 92 #[.int .i64 (n : Int)] w fun e w' => e = .returned (.int .i64 ((n : Int) - 1)) ∧ w = w':=by
  go_enter Try.func92,Try.ntmps92
  go_wp2
  go_ret
  exact ⟨lC (by omega),rfl⟩
set_option maxRecDepth 100000 in
set_option maxHeartbeats 800000 in
theorem LW (a ad : Addr) (n c : Nat) (w : World) (h0 : 0 < n) (hn : n ≤ 1000) (hc : w.cell? a = some (.slice (some ad) n c)) :
    Calls Try.prog 94 #[.pointer (some a)] w fun e w' => e = .returned (.pointer (some (ad.add ((n - 1) * 2)))) ∧ ∃ m,w' = w.drewN m:=by
  obtain ⟨k,rfl⟩ : ∃ k,n = k + 1:=⟨n - 1,by omega⟩
  rw [Nat.add_sub_cancel]
  go_enter Try.func94,Try.ntmps94
  go_wp2
  go_quiet (fail)
  go_wp2
  go_ret
  exact ⟨rfl,_,rfl⟩
set_option maxRecDepth 100000 in
set_option maxHeartbeats 800000 in
theorem JA (B : Nat) (q : Pc) (w : World) (hq : q.Ok w B) (hB : B ≤ w.heap.size) (hl : q.len ≤ 1000) (t : Int) (ht : I64 t) (b : Bool) (hb : M.lives q.cf t = b) :
    Calls Try.prog 91 #[pcA q,.int .i64 t] w fun e w' => e = .returned (.bool b) ∧ Below w.heap.size w w':=by
  have hlen:=hq.len
  have HT:=kp ht
  have HLc : Kept (I64 (q.len : Int)):=kp (by unfold I64;omega)
  have hcap:=hq.lc
  have hcm:=hq.cm
  unfold maxLen at hcm
  by_cases hin : 0 ≤ t ∧ t < (q.len : Int)
  · obtain ⟨k,rfl⟩ : ∃ k : Nat,t = (k : Int):=⟨t.toNat,by omega⟩
    have hk : k < q.len:=by omega
    have HIn:=kp (decide_eq_true hin)
    obtain ⟨ad,x,hA,hbl,hx,hok,hth,hsl,hc0,_⟩:=hq.thread hk
    rw [lives_in hth] at hb
    have hb2 : decide (0 < x.sv.len) = b:=by rw [← hb,← hsl];rfl
    have hxm:=hok.cm;have hxc:=hok.lc
    unfold maxLen at hxm
    have HC0:=kp hc0
    obtain ⟨n,hn⟩ : ∃ n,x.sv.len = n:=⟨_,rfl⟩
    rw [hn] at hb2 hxc HC0
    have HE : Kept (pcC q = .slice (some ad) q.len q.cap :: q.ow.map natV):=kp (by unfold pcC;rw [hA])
    have hbz : ad.block < w.heap.size:=by omega
    clear hq hb hx hok hth hsl hc0 hA hin hn hbl hlen ht
    unfold pcA
    rw [HE.out]
    cases b
    all_goals
      go_enter Try.func91,Try.ntmps91
      go_wp2_with (first
        | ((with_reducible refine j6 rfl 91 (.tmp 0) rfl (.slice (some ad) q.len q.cap :: q.ow.map natV) rfl ?_);intro g1 w1 hg1 hk1 hw1;have HW1:=kp hw1;have hf0:=hk1.cell 0;have hf1:=(hw1.cell (p:=ad.add (k * 9)) (by rw [add_block];exact hbz)).trans HC0.out;simp only [List.getElem?_cons_zero] at hf0;clear hk1 hw1)
        | (go_at_call 103;go_must (refine (vI _ _ HT.out HLc.out true HIn.out _).mono ?_);rintro e w2 ⟨rfl,rfl⟩))
      go_ret
      exact ⟨rfl,HW1.out⟩
  · have hb0 : M.lives q.cf t = false:=JL (by omega)
    rw [hb0] at hb
    subst hb
    have HIn:=kp (decide_eq_false hin)
    clear hq hlen ht hin hb0
    go_enter Try.func91,Try.ntmps91
    go_wp2_with (first
      | ((with_reducible refine j6 rfl 91 (.tmp 0) rfl (pcC q) rfl ?_);intro g1 w1 hg1 hk1 hw1;have HW1:=kp hw1;have hf0:=hk1.cell 0;simp only [pcC,List.getElem?_cons_zero] at hf0;clear hk1 hw1)
      | (go_at_call 103;go_must (refine (vI _ _ HT.out HLc.out false HIn.out _).mono ?_);rintro e w2 ⟨rfl,rfl⟩))
    go_ret
    exact ⟨rfl,HW1.out⟩
theorem lJ {P : Program} {fn : Func} {p : Tmp} {a : Nat} {ty : TypeId} (h : fn.results = #[.cell p ty,.tmp a]) (tmps : Array Value) (w : World) (g : Nat) (t : TypeId) (cs : List Value) (d : TypeDesc) (va : Value)
    (hp : tmps.getD p undef = .pointer (some ⟨g,0,none⟩)) (ha : tmps.getD a undef = va) (hg : Blk w g t cs)
    (hu : P.underlying ty = some d) (hd : (match d with | .struct _ | .array _ _ => true | _ => false) = true) (hi : (P.info? ty).map (·.size) = some cs.length) :
    (results fn tmps).run P w = .ok (.tuple #[.agg cs.toArray,va]) w:=by
  subst ha
  have hp' : tmps[p]?.getD undef = .pointer (some ⟨g,0,none⟩):=by simpa using hp
  simp [results,h,hp',asAddr,run_loadVar_row w g t ty cs.toArray (0,0) d hg hu hd (by simpa using hi)]
theorem Q5 (a : Act) (v : Value) : a.put none v = a:=rfl
set_option maxRecDepth 100000 in
set_option maxHeartbeats 1600000 in
theorem sem_nodeAt (B : Nat) (p : Pg) (hf : Fine p) (f n : Nat) (fn : Fn) (x : Nd) (hfn : p.fns[f]? = some fn) (hx : fn.nodes[n]? = some x) (w : World) (hp : p.Ok w B) (hB : B ≤ w.heap.size) :
    Calls Try.prog 93 #[pgA p,.agg #[.int .i64 (f : Int),.int .i64 (n : Int)]] w fun e w' => e = .returned (.tuple #[ndA x,.bool true]) ∧ Below w.heap.size w w':=by
  have hpl:=hp.row.len
  have hfl : f < p.len:=by rw [← hpl];exact (List.getElem?_eq_some_iff.1 hfn).1
  obtain ⟨ad,fn',hA,hadb,hfn',hfok,hfc⟩:=hp.fn hfl
  rw [hfn] at hfn';cases hfn'
  have hnl0:=hfok.nodes.1.len
  have hnl : n < fn.len:=by rw [← hnl0];exact (List.getElem?_eq_some_iff.1 hx).1
  obtain ⟨ad2,x',hA2,had2b,hx',hxok,hn0,hn1,hn2,hn3⟩:=hfok.nodes.get hnl
  rw [hx] at hx';cases hx'
  have hmay:=M.fine_node hf hfn hx
  rw [hnl0] at hmay
  have hL:=hf.counts.l;have hS:=hf.counts.s
  have hF:=hf.counts.f
  rw [hpl] at hF
  have h64 : fn.len ≤ 64:=by have:=(Q.fine_fn hfn (hf.nodes f (by rw [hpl];exact hfl))).2.1;omega
  have hpc:=hp.lc;have hpm:=hp.cm;have hfc2:=hfok.lc;have hfm:=hfok.cm
  unfold maxLen at hpm hfm
  have HP:=kp hp;have HM:=kp hmay;have HX:=kp hxok
  have HFc:=kp hfc;have HN0:=kp hn0;have HN1:=kp hn1;have HN2:=kp hn2;have HN3:=kp hn3
  have HI1 : Kept (decide (0 ≤ (f : Int) ∧ (f : Int) < (p.len : Int)) = true):=kp (decide_eq_true (by omega))
  have HI2 : Kept (decide (0 ≤ (n : Int) ∧ (n : Int) < (fn.len : Int)) = true):=kp (decide_eq_true (by omega))
  have hadB : ad.block < B:=hadb
  have hadB2 : ad2.block < B:=had2b
  have hl16 : p.l ≤ 16:=hL.2
  have hs8 : p.s ≤ 8:=hS.2
  have HIf : Kept (I64 (f : Int)):=kp (by unfold I64;omega)
  have HIn : Kept (I64 (n : Int)):=kp (by unfold I64;omega)
  have HIp : Kept (I64 (p.len : Int)):=kp (by unfold I64;omega)
  have HIl : Kept (I64 (fn.len : Int)):=kp (by unfold I64;omega)
  have hEC : pgC p = [.int .i64 p.g,.int .i64 p.l,.int .i64 p.s,.slice (some ad) p.len p.cap]:=by unfold pgC;rw [hA]
  have HEC:=kp hEC
  have HFC2 : Kept (w.cell? (ad.add f) = some (.slice (some ad2) fn.len fn.cap)):=kp (by rw [← hA2];exact hfc)
  clear hp hmay hxok hfc hn0 hn1 hn2 hn3 hfok hx hfn hf hA hA2 hEC hpl hnl0 hL hS HFc
  rw [jL,HEC.out]
  go_enter Try.func93,Try.ntmps93
  go_wp2_with (first
    | ((with_reducible refine j6 rfl 46 (.tmp 0) rfl [.int .i64 p.g,.int .i64 p.l,.int .i64 p.s,.slice (some ad) p.len p.cap] rfl ?_);intro g1 w1 hg1 hk1 hw1;have HK1:=kp hk1;have HW1:=kp hw1;have hs1:=hw1.size;have hl1:=hk1.lt;clear hk1 hw1)
    | ((with_reducible refine j6 rfl 175 (.tmp 1) rfl [.int .i64 (f : Int),.int .i64 (n : Int)] rfl ?_);intro g2 w2 hg2 hk2 hw2;have HK2:=kp hk2;have HK12:=kp (HK1.out.below hw2 hl1);have HW2:=kp (HW1.out.trans (hw2.mono hs1));have hs2:=HW2.out.size;have hl2:=hk2.lt;have hl12:=HK12.out.lt;clear hk2 hw2)
    | ((with_reducible show Sl 4);go_must (refine j7 rfl 97 rfl (ndC ⟨0,0,0,0⟩) l0 ?_);intro g3 w3 hg3 hk3 hw3
       have HK3:=kp hk3;have HK23:=kp (HK2.out.below hw3 hl2);have HK13:=kp (HK12.out.below hw3 hl12);have HW3:=kp (HW2.out.trans (hw3.mono hs2));have hs3:=HW3.out.size;have hl3:=hk3.lt
       have hz0:=HK13.out.cell 3;have hy0:=HK23.out.cell 0;have hy1:=HK23.out.cell 1
       have hfcl:=(HW3.out.cell (p:=ad.add f) (by rw [add_block];omega)).trans HFC2.out
       simp only [List.getElem?_cons_zero,List.getElem?_cons_succ] at hz0 hy0 hy1
       clear hk3 hw3))
  go_quiet (first
    | (go_at_call_of 103 (Value.int IntKind.i64 (f : Int));exact x7 (vI (f : Int) (p.len : Int) HIf.out HIp.out true HI1.out _))
    | (go_at_call_of 103 (Value.int IntKind.i64 (n : Int));exact x7 (vI (n : Int) (fn.len : Int) HIn.out HIl.out true HI2.out _)))
  obtain ⟨w4,hw4⟩ : ∃ y,w3.drewN nq = y:=⟨_,rfl⟩
  have HK14 : Kept (Blk w4 g1 46 [.int .i64 p.g,.int .i64 p.l,.int .i64 p.s,.slice (some ad) p.len p.cap]):=kp (by rw [← hw4];exact HK13.out.drewN nq)
  have HK24 : Kept (Blk w4 g2 175 [.int .i64 (f : Int),.int .i64 (n : Int)]):=kp (by rw [← hw4];exact HK23.out.drewN nq)
  have HK34 : Kept (Blk w4 g3 97 (ndC ⟨0,0,0,0⟩)):=kp (by rw [← hw4];exact HK3.out.drewN nq)
  have HW4 : Kept (Below w.heap.size w w4):=kp (by rw [← hw4];exact below_drewN HW3.out nq)
  rw [hw4]
  have hs4:=HW4.out.size
  clear hw4 hz0 hy0 hy1 hfcl
  have hp1:=HK14.out.cell 1;have hp2:=HK14.out.cell 2;have hz0:=HK14.out.cell 3;have hy0:=HK24.out.cell 0
  have hfcl:=(HW4.out.cell (p:=ad.add f) (by rw [add_block];omega)).trans HFC2.out
  simp only [List.getElem?_cons_zero,List.getElem?_cons_succ] at hp1 hp2 hz0 hy0
  go_wp2_with (first
    | ((refine j9 rfl 3 (.tmp 40) (.tmp 36) rfl g1 1 (.int .i64 p.l) rfl rfl rfl rfl _ _ HK14.out (by show 1 < 4;omega) lS ?_);intro w5 hk5 hg5 hs5;have HK15:=kp hk5;have HG5:=kp hg5;clear hk5 hg5)
    | ((refine j9 rfl 3 (.tmp 41) (.tmp 39) rfl g1 2 (.int .i64 p.s) rfl rfl rfl rfl _ _ HK15.out (by show 2 < 4;omega) lS ?_);intro w6 hk6 hg6 hs6;have HK16:=kp hk6;have HG6:=kp hg6;clear hk6 hg6))
  have HG : Kept (w4.grownBy w6 (some g1)):=kp (lE HG5.out HG6.out)
  have HK1 : Kept (Blk w6 g1 46 [.int .i64 p.g,.int .i64 p.l,.int .i64 p.s,.slice (some ad) p.len p.cap]):=kp HK16.out
  have hg12 : g1 ≠ g2:=by omega
  have hg13 : g1 ≠ g3:=by omega
  have HK2:=kp (HK24.out.grown HG.out (fun e => hg12 (by cases e;rfl)))
  have HK3:=kp (HK34.out.grown HG.out (fun e => hg13 (by cases e;rfl)))
  have HW6 : Kept (Below w.heap.size w w6):=kp (HW4.out.grown HG.out hs4 (fun k e => by cases e;exact hg1))
  have hs6:=HW6.out.size
  have hk1l:=HK1.out.lt;have hk2l:=HK2.out.lt
  clear hp1 hp2 hz0 hy0 hfcl
  simp only [Q5]
  apply qM (.is _ :: .is _ :: .is _ :: .is _ :: .is _ :: .is (ndA x) :: .is _ :: .is _ :: .is _ :: .is _ :: [])
    [[],[],[],[(2,44)],[(1,43),(3,45)],[(4,46)],[],[(6,48)],[(0,42),(5,47),(7,49)],[(8,50)]]
    [(0,42),(1,43),(2,44),(3,45),(4,46),(5,47),(6,48),(7,49),(8,50),(9,51)] (by kernel_rfl) (by kernel_rfl)
  case hob =>
    refine ⟨?o0,?o1,?o2,?o3,?o4,?o5,?o6,?o7,?o8,?o9,trivial⟩
    case o0 =>
      intro W hW;change wpList _ _ _ _ _ _
      have hb:=HK1.out.below hW hk1l
      have hc0:=hb.cell 0;have hc1:=hb.cell 1;have hc2:=hb.cell 2;have hc3:=hb.cell 3
      simp only [List.getElem?_cons_zero,List.getElem?_cons_succ] at hc0 hc1 hc2 hc3
      clear hb
      go_wp2;exact j0 rfl rfl rfl
    case o1 => intro W hW;change wpList _ _ _ _ _ _;go_wp2;exact j0 rfl rfl rfl
    case o2 => intro W hW;change wpList _ _ _ _ _ _;go_wp2;exact j0 rfl rfl rfl
    case o3 =>
      intro W hW;rintro _ rfl;change wpList _ _ _ _ _ _
      have hc1:=(HK2.out.below hW hk2l).cell 1
      simp only [List.getElem?_cons_zero,List.getElem?_cons_succ] at hc1
      go_wp2;exact j0 rfl rfl rfl
    case o4 => intro W hW;rintro _ rfl;rintro _ rfl;change wpList _ _ _ _ _ _;go_wp2;exact j0 rfl rfl rfl
    case o5 =>
      intro W hW;rintro _ rfl;change wpList _ _ _ _ _ _
      have hb:=HW6.out.trans (hW.mono hs6)
      have hc0:=(hb.cell (p:=ad2.add (n * 4)) (by rw [add_block];omega)).trans HN0.out
      have hc1:=(hb.cell (p:=⟨(ad2.add (n * 4)).block,(ad2.add (n * 4)).off + 1,none⟩) (by show (ad2.add (n * 4)).block < _;rw [add_block];omega)).trans HN1.out
      have hc2:=(hb.cell (p:=⟨(ad2.add (n * 4)).block,(ad2.add (n * 4)).off + 2,none⟩) (by show (ad2.add (n * 4)).block < _;rw [add_block];omega)).trans HN2.out
      have hc3:=(hb.cell (p:=⟨(ad2.add (n * 4)).block,(ad2.add (n * 4)).off + 3,none⟩) (by show (ad2.add (n * 4)).block < _;rw [add_block];omega)).trans HN3.out
      clear hb
      go_wp2;exact j0 rfl rfl rfl
    case o6 => intro W hW;change wpList _ _ _ _ _ _;go_wp2;exact j0 rfl rfl rfl
    case o7 => intro W hW;rintro _ rfl;change wpList _ _ _ _ _ _;go_wp2;exact j0 rfl rfl rfl
    case o8 =>
      intro W hW;rintro _ rfl;rintro _ rfl;rintro _ rfl;change wpList _ _ _ _ _ _
      have hb:=HW6.out.trans (hW.mono hs6)
      have hC:=Q7 B p x HX.out (fn.len : Int) HIl.out true HM.out W (HP.out.below (hb.mono hB)) (by have:=hb.size;omega)
      rw [jL,HEC.out] at hC
      clear hb
      go_wp2_with fail
      refine hC.mono ?_
      rintro e w2 ⟨rfl,hb2⟩
      have HB2:=kp hb2;clear hb2
      go_wp2
      exact jG rfl rfl rfl HB2.out rfl
    case o9 => intro W hW;rintro _ rfl;change wpList _ _ _ _ _ _;go_wp2;exact j0 rfl rfl rfl
  case hend =>
    intro W hW;rintro _ rfl;rintro _ rfl;rintro _ rfl;rintro _ rfl;rintro _ rfl;rintro _ rfl;rintro _ rfl;rintro _ rfl;rintro _ rfl;rintro _ rfl
    simp only [given,jJ,List.set]
    have hb:=HW6.out.trans (hW.mono hs6)
    have HWw:=kp hb
    have hsw:=hb.size
    have hc0:=(hb.cell (p:=ad2.add (n * 4)) (by rw [add_block];omega)).trans HN0.out
    have hc1:=(hb.cell (p:=⟨(ad2.add (n * 4)).block,(ad2.add (n * 4)).off + 1,none⟩) (by show (ad2.add (n * 4)).block < _;rw [add_block];omega)).trans HN1.out
    have hc2:=(hb.cell (p:=⟨(ad2.add (n * 4)).block,(ad2.add (n * 4)).off + 2,none⟩) (by show (ad2.add (n * 4)).block < _;rw [add_block];omega)).trans HN2.out
    have hc3:=(hb.cell (p:=⟨(ad2.add (n * 4)).block,(ad2.add (n * 4)).off + 3,none⟩) (by show (ad2.add (n * 4)).block < _;rw [add_block];omega)).trans HN3.out
    have hy1:=(HK2.out.below hW hk2l).cell 1
    simp only [List.getElem?_cons_zero,List.getElem?_cons_succ] at hy1
    have HK3w:=kp (HK3.out.below hW HK3.out.lt)
    clear hb hW
    go_wp2_with (first
      | ((with_reducible show Sn);go_must (refine j5 rfl 97 (.tmp 4) (.tmp 57) rfl g3 (ndC x) rfl rfl _ _ HK3w.out jO rfl (l5 x) ?_);intro w8 hk8 hg8 hs8;have HK8:=kp hk8;have HW8:=kp (HWw.out.grown hg8 hsw (fun k e => by cases e;omega));clear hk8 hg8)
      | ((with_reducible show bodyPost _ _ _ _ _ _);exact bodyPost_ret (lJ (P:=Try.prog) (fn:=Try.f93) rfl _ _ g3 97 _ _ _ rfl rfl HK8.out Try.underlying97 rfl jO) rfl ⟨rfl,HW8.out⟩))
theorem owners_size : (Try.prog.info? 61).map (·.size) = some 16:=by kernel_rfl
theorem jC : (Try.prog.info? 91).map (·.size) = some 17:=by kernel_rfl
theorem QE {o : List Nat} (h16 : o.length = 16) {k : Nat} (hk : k < 16) : (o.map natV)[k]? = some (.int .i64 (o.getD k 0 : Int)):=by
  rw [List.getElem?_map,List.getElem?_eq_getElem (by omega),List.getD_eq_getElem?_getD,List.getElem?_eq_getElem (by omega)];rfl
def atNd (p : Pg) (c : M.Cf) (t : Int) : Nd:=if M.lives c t = true then M.node p c t.toNat else ⟨0,0,0,0⟩
theorem jX (q : Pc) : ∀ u ∈ pcC q,u.oneCell' = true:=by
  intro u hu
  unfold pcC at hu
  rcases List.mem_cons.1 hu with rfl | hu
  · rfl
  · obtain ⟨x,_,rfl⟩:=List.mem_map.1 hu
    rfl
theorem jW {q : Pc} (h : q.ow.length = 16) : (pcC q).length = 17:=by simp [pcC,h]
theorem qS (q : Pc) : pcA q = .agg (pcC q).toArray:=rfl
theorem nd_zero_ok : Nd.Ok ⟨0,0,0,0⟩:=⟨by unfold I64;simp,by unfold I64;simp,by unfold I64;simp,by unfold I64;simp⟩
set_option maxRecDepth 100000 in
set_option maxHeartbeats 1600000 in
theorem yN (B : Nat) (p : Pg) (hf : Fine p) (q : Pc) (w : World) (hp : p.Ok w B) (hq : q.Ok w B) (hg : M.Good p q.cf) (hB : B ≤ w.heap.size) (t : Int) (ht : I64 t) (b : Bool) (hb : M.lives q.cf t = b) (x : Nd) (hx : atNd p q.cf t = x) :
    Calls Try.prog 80 #[pcA q,pgA p,.int .i64 t] w fun e w' => e = .returned (.tuple #[ndA x,.bool b]) ∧ Below w.heap.size w w':=by
  have h8 : q.len ≤ 8:=by rw [← hq.len];exact hg.most
  have hq17 : (pcC q).length = 17:=jW hg.owns
  have HQ17:=kp hq17
  have HP:=kp hp;have HQ:=kp hq;have HT:=kp ht;have HB:=kp hb
  cases b
  · have HX : Kept (x = ⟨0,0,0,0⟩):=kp (by rw [← hx];unfold atNd;rw [hb];rfl)
    rw [HX.out]
    clear hp hq ht hb hx hg hf hq17
    rw [qS,jL]
    go_enter Try.func80,Try.ntmps80
    go_wp2_with (first
      | ((with_reducible refine j6 rfl 91 (.tmp 0) rfl (pcC q) rfl ?_);intro g1 w1 hg1 hk1 hw1;have HK1:=kp hk1;have HW1:=kp hw1;have hs1:=hw1.size;have hl1:=hk1.lt;clear hk1 hw1)
      | ((with_reducible refine j6 rfl 46 (.tmp 1) rfl (pgC p) rfl ?_);intro g2 w2 hg2 hk2 hw2;have HK12:=kp (HK1.out.below hw2 hl1);have HW2:=kp (HW1.out.trans (hw2.mono hs1));have hs2:=HW2.out.size;have hl12:=HK12.out.lt;clear hk2 hw2)
      | ((with_reducible show Sl 6);go_must (refine j7 rfl 97 rfl (ndC ⟨0,0,0,0⟩) l0 ?_);intro g3 w3 hg3 hk3 hw3
         have HK3:=kp hk3;have HK13:=kp (HK12.out.below hw3 hl12);have HW3:=kp (HW2.out.trans (hw3.mono hs2));have hs3:=HW3.out.size;have hl3:=hk3.lt;clear hk3 hw3)
      | ((with_reducible show Sl 8);go_must (refine j4 rfl 91 (.tmp 3) rfl g1 rfl _ (pcC q) _ HK13.out Try.underlying91 rfl (by rw [HQ17.out];exact jC) ?_))
      | (go_at_call 91;go_must (refine (JA B q w3 (HQ.out.below (HW3.out.mono hB)) (by omega) (by omega) t HT.out false HB.out).mono ?_);rintro e w4 ⟨rfl,hb4⟩
         have HW4:=kp (HW3.out.trans (hb4.mono hs3));have HK4:=kp (HK3.out.below hb4 hl3);have hs4:=HW4.out.size;clear hb4)
      | ((with_reducible show Sn);go_must (refine j5 rfl 97 (.tmp 6) (.tmp 12) rfl g3 (ndC ⟨0,0,0,0⟩) rfl rfl _ _ HK4.out jO rfl (l5 _) ?_);intro w8 hk8 hg8 hs8;have HK8:=kp hk8;have HW8:=kp (HW4.out.grown hg8 hs4 (fun k e => by cases e;omega));clear hk8 hg8)
      | ((with_reducible show bodyPost _ _ _ _ _ _);exact bodyPost_ret (lJ (P:=Try.prog) (fn:=Try.f80) rfl _ _ g3 97 _ _ _ rfl rfl HK8.out Try.underlying97 rfl jO) rfl ⟨rfl,HW8.out⟩))
  · obtain ⟨k,rfl⟩ : ∃ k : Nat,t = (k : Int):=⟨t.toNat,by
      unfold M.lives at hb
      rw [Bool.and_eq_true,decide_eq_true_eq] at hb
      omega⟩
    have hb2:=hb
    rw [M.lives_nat] at hb2
    have hkl : k < q.len:=by rw [← hq.len];exact M.lives_lt hb2
    have hxn : M.node p q.cf k = x:=by rw [← hx];unfold atNd;rw [hb];rfl
    obtain ⟨ad,th,hA,hadB,hth,hsok,hthc,hsl,hc0,_⟩:=hq.thread hkl
    have hs0 : 0 < th.sv.len:=by
      unfold M.livesN at hb2
      rw [hthc,decide_eq_true_eq] at hb2
      rw [← hsl];exact hb2
    obtain ⟨ad2,hA2,hadB2,hl0,hl1⟩:=hsok.last hs0
    obtain ⟨fn,hfn,hfi,hfx⟩:=M.node_is hg hb2
    rw [hxn,hthc] at hfx
    rw [hthc] at hfn
    have hlen16 : th.sv.len ≤ 1000:=by
      have h1:=M.high hf hp.row.len hg (x:=tvT th) (List.mem_map_of_mem (List.mem_of_getElem? hth))
      have h2:=hf.counts.f
      have h3 : (tvT th).stack.length = th.sv.len:=hsl
      omega
    rw [hA2] at hc0
    obtain ⟨F,hF⟩ : ∃ F,(M.top (tvT th).stack).1 = F:=⟨_,rfl⟩
    obtain ⟨N,hN⟩ : ∃ N,(M.top (tvT th).stack).2 = N:=⟨_,rfl⟩
    rw [hF] at hfn
    rw [hN] at hfx
    have hl0' : w.cell? (ad2.add ((th.sv.len - 1) * 2)) = some (.int .i64 (F : Int)):=by rw [← hF];exact hl0
    have hl1' : w.cell? ⟨(ad2.add ((th.sv.len - 1) * 2)).block,(ad2.add ((th.sv.len - 1) * 2)).off + 1,none⟩ = some (.int .i64 (N : Int)):=by rw [← hN];exact hl1
    have HC0:=kp hc0;have HL0:=kp hl0';have HL1:=kp hl1';have HFn:=kp hfn;have HFx:=kp hfx;have HFine:=kp hf
    have hqc:=hq.lc;have hqm:=hq.cm;have hxc:=hsok.lc;have hxm:=hsok.cm
    unfold maxLen at hqm hxm
    obtain ⟨n,hn⟩ : ∃ n,th.sv.len = n:=⟨_,rfl⟩
    obtain ⟨cp,hcp⟩ : ∃ cp,th.sv.cap = cp:=⟨_,rfl⟩
    rw [hn] at HC0 HL0 HL1 hs0 hlen16 hxc
    rw [hcp] at HC0 hxc hxm
    have HE : Kept (pcC q = .slice (some ad) q.len q.cap :: q.ow.map natV):=kp (by unfold pcC;rw [hA])
    clear hp hq ht hb hx hg hf hq17 hc0 hl0 hl1 hl0' hl1' hfn hfx hF hN hb2 hxn hth hsok hthc hsl hA hA2 hfi hn hcp
    rw [qS,jL]
    go_enter Try.func80,Try.ntmps80
    go_wp2_with (first
      | ((with_reducible refine j6 rfl 91 (.tmp 0) rfl (pcC q) rfl ?_);intro g1 w1 hg1 hk1 hw1;have HK1:=kp hk1;have HW1:=kp hw1;have hs1:=hw1.size;have hl1:=hk1.lt;clear hk1 hw1)
      | ((with_reducible refine j6 rfl 46 (.tmp 1) rfl (pgC p) rfl ?_);intro g2 w2 hg2 hk2 hw2;have HK12:=kp (HK1.out.below hw2 hl1);have HK2:=kp hk2;have HW2:=kp (HW1.out.trans (hw2.mono hs1));have hs2:=HW2.out.size;have hl12:=HK12.out.lt;have hl2:=hk2.lt;clear hk2 hw2)
      | ((with_reducible show Sl 6);go_must (refine j7 rfl 97 rfl (ndC ⟨0,0,0,0⟩) l0 ?_);intro g3 w3 hg3 hk3 hw3
         have HK3:=kp hk3;have HK13:=kp (HK12.out.below hw3 hl12);have HK23:=kp (HK2.out.below hw3 hl2);have HW3:=kp (HW2.out.trans (hw3.mono hs2));have hs3:=HW3.out.size;have hl3:=hk3.lt;clear hk3 hw3)
      | ((with_reducible show Sl 8);go_must (refine j4 rfl 91 (.tmp 3) rfl g1 rfl _ (pcC q) _ HK13.out Try.underlying91 rfl (by rw [HQ17.out];exact jC) ?_))
      | (go_at_call 91;go_must (refine (JA B q w3 (HQ.out.below (HW3.out.mono hB)) (by omega) (by omega) (k : Int) HT.out true HB.out).mono ?_);rintro e w4 ⟨rfl,hb4⟩
         have HW4:=kp (HW3.out.trans (hb4.mono hs3));have HK34:=kp (HK3.out.below hb4 hl3);have HK14:=kp (HK13.out.below hb4 HK13.out.lt);have HK24:=kp (HK23.out.below hb4 HK23.out.lt);have hs4:=HW4.out.size;clear hb4))
    have hd1:=HK14.out.lt;have hd2:=HK24.out.lt
    apply jH 11 (.is (pgA p) :: .is _ :: .is _ :: .is _ :: .is _ :: .is _ :: .is _ :: .is (.agg #[.int .i64 (F : Int),.int .i64 (N : Int)]) :: .is (.tuple #[ndA x,.bool true]) :: .is _ :: .is _ :: [])
      [[],[],[(1,14)],[],[(2,15),(3,16)],[(4,17)],[(5,18)],[(6,19)],[(0,13),(7,20)],[(8,21)],[(8,21)],[(9,22)],[(10,23)]]
      [(0,13),(1,14),(2,15),(3,16),(4,17),(5,18),(6,19),(7,20),(8,21),(9,22),(10,23)] (by kernel_rfl) (by kernel_rfl) (by kernel_rfl) (by kernel_rfl) (by kernel_rfl)
    case hob =>
      refine ⟨?o0,?o1,?o2,?o3,?o4,?o5,?o6,?o7,?o8,?o9,?o10,trivial⟩
      case o0 =>
        intro W hW;change wpList _ _ _ _ _ _
        obtain ⟨hc0,hc1,hc2,hc3⟩:=jM (HK24.out.below hW hd2)
        go_wp2;exact j0 rfl rfl rfl
      case o1 => intro W hW;change wpList _ _ _ _ _ _;go_wp2;exact j0 rfl rfl rfl
      case o2 =>
        intro W hW;rintro _ rfl;change wpList _ _ _ _ _ _
        have hc:=(HK14.out.below hW hd1).cell 0
        rw [HE.out,List.getElem?_cons_zero] at hc
        go_wp2;exact j0 rfl rfl rfl
      case o3 => intro W hW;change wpList _ _ _ _ _ _;go_wp2;exact j0 rfl rfl rfl
      case o4 => intro W hW;rintro _ rfl;rintro _ rfl;change wpList _ _ _ _ _ _;go_wp2;exact j0 rfl rfl rfl
      case o5 =>
        intro W hW;rintro _ rfl;change wpList _ _ _ _ _ _
        have hc:=((HW4.out.trans (hW.mono hs4)).cell (p:=ad.add (k * 9)) (by rw [add_block];omega)).trans HC0.out
        have HC:=kp (LW (ad.add (k * 9)) ad2 n cp W hs0 hlen16 hc)
        clear hc
        go_wp2_with fail
        refine HC.out.mono ?_
        rintro e w2 ⟨rfl,m,rfl⟩
        go_wp2
        exact jG rfl rfl rfl (below_drewN (Below.refl _ _) m) rfl
      case o6 => intro W hW;rintro _ rfl;change wpList _ _ _ _ _ _;go_wp2;exact j0 rfl rfl rfl
      case o7 =>
        intro W hW;rintro _ rfl;change wpList _ _ _ _ _ _
        have hb:=HW4.out.trans (hW.mono hs4)
        have hc0:=(hb.cell (p:=ad2.add ((n - 1) * 2)) (by rw [add_block];omega)).trans HL0.out
        have hc1:=(hb.cell (p:=⟨(ad2.add ((n - 1) * 2)).block,(ad2.add ((n - 1) * 2)).off + 1,none⟩) (by show (ad2.add ((n - 1) * 2)).block < _;rw [add_block];omega)).trans HL1.out
        clear hb
        go_wp2;exact j0 rfl rfl rfl
      case o8 =>
        intro W hW;rintro _ rfl;rintro _ rfl;change wpList _ _ _ _ _ _
        have hb:=HW4.out.trans (hW.mono hs4)
        have HC:=kp (sem_nodeAt B p HFine.out F N fn x HFn.out HFx.out W (HP.out.below (hb.mono hB)) (by have:=hb.size;omega))
        clear hb
        go_wp2_with fail
        refine HC.out.mono ?_
        rintro e w2 ⟨rfl,hb2⟩
        have HB2:=kp hb2;clear hb2
        go_wp2
        exact jG rfl rfl rfl HB2.out rfl
      case o9 => intro W hW;rintro _ rfl;change wpList _ _ _ _ _ _;go_wp2;exact j0 rfl rfl rfl
      case o10 => intro W hW;rintro _ rfl;change wpList _ _ _ _ _ _;go_wp2;exact j0 rfl rfl rfl
    case hend =>
      intro W hW;rintro _ rfl;rintro _ rfl;rintro _ rfl;rintro _ rfl;rintro _ rfl;rintro _ rfl;rintro _ rfl;rintro _ rfl;rintro _ rfl;rintro _ rfl;rintro _ rfl
      simp only [given,jJ,List.set,List.drop]
      have HWw:=kp (HW4.out.trans (hW.mono hs4))
      have hsw:=HWw.out.size
      have HK3w:=kp (HK34.out.below hW HK34.out.lt)
      clear hW
      go_wp2_with (first
        | ((with_reducible show Sn);go_must (refine j5 rfl 97 (.tmp 6) (.tmp 22) rfl g3 (ndC x) rfl rfl _ _ HK3w.out jO rfl (l5 x) ?_);intro w8 hk8 hg8 hs8;have HK8:=kp hk8;have HW8:=kp (HWw.out.grown hg8 hsw (fun k e => by cases e;omega));clear hk8 hg8)
        | ((with_reducible show bodyPost _ _ _ _ _ _);exact bodyPost_ret (lJ (P:=Try.prog) (fn:=Try.f80) rfl _ _ g3 97 _ _ _ rfl rfl HK8.out Try.underlying97 rfl jO) rfl ⟨rfl,HW8.out⟩))
theorem touch_info : (Try.prog.info? 139).map (fun i => (i.zero,i.size,i.bytes)) = some (some (.agg #[.int .i64 0,.int .i64 0,.bool false]),3,24):=by kernel_rfl
theorem acc_of {p : Pg} {c : M.Cf} {k : Nat} {b : Bool} {x : Nd} (hb : M.lives c (k : Int) = b) (hx : atNd p c (k : Int) = x) : M.acc p c (k : Int) = if (b && (x.kind == 1 || x.kind == 2)) = true then (x.arg,x.kind) else (0,0):=by
  unfold M.acc
  rw [Int.toNat_natCast,hb]
  cases b with
  | false => rfl
  | true =>
    have e : M.node p c k = x:=by rw [← hx];unfold atNd;rw [hb];rfl
    rw [e,Bool.true_and]
    by_cases h1 : x.kind = 1 ∨ x.kind = 2
    · rw [if_pos ⟨rfl,h1⟩,if_pos (by simpa using h1)]
    · rw [if_neg (fun h => h1 h.2),if_neg (by simpa using h1)]
theorem acc_of_yes {p : Pg} {c : M.Cf} {k : Nat} {x : Nd} (hb : M.lives c (k : Int) = true) (hx : atNd p c (k : Int) = x) (h : (x.kind == 1 || x.kind == 2) = true) : M.acc p c (k : Int) = (x.arg,x.kind):=by
  rw [acc_of hb hx,h];rfl
theorem acc_of_no {p : Pg} {c : M.Cf} {k : Nat} {b : Bool} {x : Nd} (hb : M.lives c (k : Int) = b) (hx : atNd p c (k : Int) = x) (h : (b && (x.kind == 1 || x.kind == 2)) = false) : M.acc p c (k : Int) = (0,0):=by
  rw [acc_of hb hx,h];rfl
theorem atNd_ok {p : Pg} {c : M.Cf} (hg : M.Good p c) {w : World} {B : Nat} (hp : p.Ok w B) (k : Nat) : (atNd p c (k : Int)).Ok:=by
  unfold atNd
  by_cases h : M.lives c (k : Int) = true
  · rw [if_pos h,Int.toNat_natCast]
    rw [M.lives_nat] at h
    obtain ⟨fn,hfn,_,hx⟩:=M.node_is hg h
    obtain ⟨_,fn',_,_,hfn',hok,_⟩:=hp.fn (show (M.top (M.th c k).stack).1 < p.len by rw [← hp.row.len];exact (List.getElem?_eq_some_iff.1 hfn).1)
    rw [hfn] at hfn'
    cases hfn'
    exact hok.nodes.2 _ (List.mem_of_getElem? hx)
  · rw [if_neg h]
    exact nd_zero_ok
set_option maxRecDepth 100000 in
set_option maxHeartbeats 1600000 in
theorem uX (B : Nat) (p : Pg) (hf : Fine p) (q : Pc) (w : World) (hp : p.Ok w B) (hq : q.Ok w B) (hg : M.Good p q.cf) (hB : B ≤ w.heap.size) :
    Calls Try.prog 65 #[pgA p,pcA q] w fun e w' => ∃ v,e = .returned v ∧ OwnR 3 tcV w' w.heap.size 139 v (touchesTo p q.cf q.len) ∧ Below w.heap.size w w':=by
  have h8 : q.len ≤ 8:=by rw [← hq.len];exact hg.most
  have HQ17:=kp (jW hg.owns)
  have HP:=kp hp;have HQ:=kp hq;have HG:=kp hg;have HF:=kp hf
  have hqc:=hq.lc;have hqm:=hq.cm
  unfold maxLen at hqm
  have HE0 : Kept (pcC q = .slice q.A q.len q.cap :: q.ow.map natV):=kp rfl
  clear hp hq hg hf
  rw [qS,jL]
  go_enter Try.func65,Try.ntmps65
  go_wp2_with (first
    | ((with_reducible refine j6 rfl 46 (.tmp 0) rfl (pgC p) rfl ?_);intro g1 w1 hg1 hk1 hw1;have HK1:=kp hk1;have HW1:=kp hw1;have hs1:=hw1.size;have hl1:=hk1.lt;clear hk1 hw1)
    | ((with_reducible refine j6 rfl 91 (.tmp 1) rfl (pcC q) rfl ?_);intro g2 w2 hg2 hk2 hw2;have HK2:=kp hk2;have HK12:=kp (HK1.out.below hw2 hl1);have HW2:=kp (HW1.out.trans (hw2.mono hs1));have hs2:=HW2.out.size;have hl12:=HK12.out.lt;have hl2:=hk2.lt
       have hc0:=hk2.cell 0
       rw [HE0.out,List.getElem?_cons_zero] at hc0
       clear hk2 hw2))
  clear hc0
  go_loopw [5,15] (fun v5 v15 wr => ∃ i : Nat,i ≤ q.len ∧ v15 = .int .i64 i ∧ OwnR 3 tcV wr w2.heap.size 139 v5 (touchesTo p q.cf i) ∧ Below w2.heap.size w2 wr) (fun _ v15 _ => q.len - (intOf v15).toNat)
  case atStart => exact ⟨0,by omega,rfl,OwnR.nil _ _ _ _ _,Below.refl _ _⟩
  case round =>
    obtain ⟨i,hi,rfl,hown,hbw⟩:=hrel
    obtain ⟨A5,c5,rfl,hc5,hm5,_⟩:=hown.form
    have HOwn:=kp hown;have HBw:=kp hbw
    obtain ⟨n5,hn5⟩ : ∃ n5,(touchesTo p q.cf i).length = n5:=⟨_,rfl⟩
    rw [hn5] at HOwn hc5 ⊢
    have HN5:=kp hn5
    unfold maxLen at hm5
    have hsz:=hbw.size
    have hal:=yG p q.cf i
    rw [hn5] at hal
    have HBW:=kp (HW2.out.trans (hbw.mono hs2))
    have hsw:=HBW.out.size
    have HK1r:=kp (HK12.out.below hbw hl12);have HK2r:=kp (HK2.out.below hbw hl2)
    have HPr:=kp (HP.out.below (HBW.out.mono hB));have HQr:=kp (HQ.out.below (HBW.out.mono hB))
    have hBr : B ≤ wr.heap.size:=by omega
    clear hown hbw hn5
    by_cases hlt : i < q.len
    · have HI : Kept (I64 (i : Int)):=kp (by unfold I64;omega)
      obtain ⟨b,hb⟩ : ∃ b,M.lives q.cf (i : Int) = b:=⟨_,rfl⟩
      obtain ⟨x,hx⟩ : ∃ x,atNd p q.cf (i : Int) = x:=⟨_,rfl⟩
      have HXok : Kept x.Ok:=kp (by rw [← hx];exact atNd_ok HG.out HPr.out i)
      have HB:=kp hb;have HX:=kp hx
      obtain ⟨ac,hac⟩ : ∃ ac,(x.kind == 1 || x.kind == 2) = ac:=⟨_,rfl⟩
      have HAc:=kp hac
      clear hb hx hac
      by_cases hyes : b = true ∧ ac = true
      · obtain ⟨rfl,rfl⟩:=hyes
        have HA:=kp (acc_of_yes HB.out HX.out HAc.out)
        have hpos : 0 < (M.acc p q.cf (i : Int)).2:=by
          rw [HA.out]
          have h:=HAc.out
          rw [Bool.or_eq_true,beq_iff_eq,beq_iff_eq] at h
          show 0 < x.kind
          omega
        have HE : Kept (touchesTo p q.cf (i + 1) = touchesTo p q.cf i ++ [⟨i,x.arg,x.kind == 2⟩]):=kp (by
          rw [YI hpos]
          unfold tcOf
          rw [HA.out]
          congr 2)
        clear hpos
        obtain ⟨wrb,hwrb⟩ : ∃ wrb,(x.kind == 2) = wrb:=⟨_,rfl⟩
        rw [hwrb] at HE
        have HWrb:=kp hwrb
        clear hwrb
        go_wp2_with (first
          | ((with_reducible show Sl 19);go_must (refine j4 rfl 91 (.tmp 3) rfl g2 rfl _ (pcC q) _ HK2r.out Try.underlying91 rfl (by rw [HQ17.out];exact jC) ?_))
          | ((with_reducible show Sl 20);go_must (refine j4 rfl 46 (.tmp 2) rfl g1 rfl _ (pgC p) _ HK1r.out Try.underlying46 rfl jF ?_))
          | (go_at_call 80;go_must (refine (yN B p HF.out q _ HPr.out HQr.out HG.out hBr (i : Int) HI.out true HB.out x HX.out).mono ?_);rintro e w5 ⟨rfl,hb5⟩
             have HB5:=kp hb5;have hs5:=hb5.size;clear hb5)
          | ((with_reducible show Sl 7);go_must (refine j7 rfl 97 rfl (ndC ⟨0,0,0,0⟩) l0 ?_);intro g7 w7 hg7 hk7 hw7;have HK7:=kp hk7;have HG7:=kp hg7;have HB7:=kp (HB5.out.trans (hw7.mono hs5));have hs7:=HB7.out.size;clear hk7 hw7 hg7)
          | ((with_reducible show Sn);go_must (refine j5 rfl 97 (.tmp 7) (.tmp 23) rfl g7 (ndC x) rfl rfl _ _ HK7.out jO rfl (l5 x) ?_);intro w8 hk8 hg8 hs8';have HK8:=kp hk8;have HB8:=kp (HB7.out.grown hg8 hs7 (fun k e => by cases e;have:=HG7.out;omega));have hs8:=HB8.out.size;clear hk8 hg8 hs8')
          | ((with_reducible show Sl 26);go_must (refine j4 rfl 97 (.tmp 7) rfl g7 rfl _ (ndC x) _ HK8.out Try.underlying97 rfl jO ?_))
          | (go_at_call 87;go_must (refine (zR x HXok.out _).mono ?_);rintro e w9 ⟨rfl,hb9⟩;rw [HAc.out,HWrb.out]
             have HB9:=kp (HB8.out.trans (hb9.mono hs8));have hs9:=HB9.out.size;have HO9:=kp (HOwn.out.below HB9.out (Nat.le_refl _));clear hb9)
          | (at_builtin;go_must (refine uK rfl (.tmp 35) (.tmp 40) 134 rfl w2.heap.size 139 3 _ 24 Try.underlying134 touch_info rfl (by omega) tcV tcV_one _ (.slice A5 n5 c5) (touchesTo p q.cf i) ⟨i,x.arg,wrb⟩ rfl HO9.out _ 1 rfl rfl _ rfl (by rw [HN5.out];unfold maxLen;omega) (by rw [HN5.out];omega) (by omega) ?_);intro v10 w10 hown10 hgr10
             have HO10:=kp hown10;have HB10:=kp ((HBw.out.trans (HB9.out.mono hsz)).grown hgr10.1 (HBw.out.trans (HB9.out.mono hsz)).size (fun k hk => (HO9.out.block k hk).1));clear hown10 hgr10))
        go_roundw
        case rel => exact ⟨i + 1,by omega,by go_num,by rw [HE.out];exact HO10.out,HB10.out⟩
        case measure => simp [intOf];omega
      · have hno : (b && ac) = false:=by cases b <;> cases ac <;> simp_all
        have HA:=kp (acc_of_no HB.out HX.out (by rw [HAc.out];exact hno))
        have HE : Kept (touchesTo p q.cf (i + 1) = touchesTo p q.cf i):=kp (touches_no (by rw [HA.out];exact Int.lt_irrefl 0))
        clear hyes
        obtain ⟨wrb,hwrb⟩ : ∃ wrb,(x.kind == 2) = wrb:=⟨_,rfl⟩
        have HWrb:=kp hwrb
        clear hwrb
        cases b
        · clear hno
          go_wp2_with (first
            | ((with_reducible show Sl 19);go_must (refine j4 rfl 91 (.tmp 3) rfl g2 rfl _ (pcC q) _ HK2r.out Try.underlying91 rfl (by rw [HQ17.out];exact jC) ?_))
            | ((with_reducible show Sl 20);go_must (refine j4 rfl 46 (.tmp 2) rfl g1 rfl _ (pgC p) _ HK1r.out Try.underlying46 rfl jF ?_))
            | (go_at_call 80;go_must (refine (yN B p HF.out q _ HPr.out HQr.out HG.out hBr (i : Int) HI.out false HB.out x HX.out).mono ?_);rintro e w5 ⟨rfl,hb5⟩
               have HB5:=kp hb5;have hs5:=hb5.size;clear hb5)
            | ((with_reducible show Sl 7);go_must (refine j7 rfl 97 rfl (ndC ⟨0,0,0,0⟩) l0 ?_);intro g7 w7 hg7 hk7 hw7;have HK7:=kp hk7;have HG7:=kp hg7;have HB7:=kp (HB5.out.trans (hw7.mono hs5));have hs7:=HB7.out.size;clear hk7 hw7 hg7)
            | ((with_reducible show Sn);go_must (refine j5 rfl 97 (.tmp 7) (.tmp 23) rfl g7 (ndC x) rfl rfl _ _ HK7.out jO rfl (l5 x) ?_);intro w8 hk8 hg8 hs8';have HK8:=kp hk8;have HB8:=kp (HB7.out.grown hg8 hs7 (fun k e => by cases e;have:=HG7.out;omega));have hs8:=HB8.out.size;clear hk8 hg8 hs8')
            | ((with_reducible show Sl 26);go_must (refine j4 rfl 97 (.tmp 7) rfl g7 rfl _ (ndC x) _ HK8.out Try.underlying97 rfl jO ?_))
            | (go_at_call 87;go_must (refine (zR x HXok.out _).mono ?_);rintro e w9 ⟨rfl,hb9⟩;rw [HAc.out,HWrb.out]
               have HB9:=kp (HB8.out.trans (hb9.mono hs8));have hs9:=HB9.out.size;have HO9:=kp (HOwn.out.below HB9.out (Nat.le_refl _));clear hb9))
          go_roundw
          case rel => exact ⟨i + 1,by omega,by go_num,by rw [HE.out];exact HO9.out,HBw.out.trans (HB9.out.mono hsz)⟩
          case measure => simp [intOf];omega
        · have hacf : ac = false:=by simpa using hno
          subst hacf
          clear hno
          go_wp2_with (first
            | ((with_reducible show Sl 19);go_must (refine j4 rfl 91 (.tmp 3) rfl g2 rfl _ (pcC q) _ HK2r.out Try.underlying91 rfl (by rw [HQ17.out];exact jC) ?_))
            | ((with_reducible show Sl 20);go_must (refine j4 rfl 46 (.tmp 2) rfl g1 rfl _ (pgC p) _ HK1r.out Try.underlying46 rfl jF ?_))
            | (go_at_call 80;go_must (refine (yN B p HF.out q _ HPr.out HQr.out HG.out hBr (i : Int) HI.out true HB.out x HX.out).mono ?_);rintro e w5 ⟨rfl,hb5⟩
               have HB5:=kp hb5;have hs5:=hb5.size;clear hb5)
            | ((with_reducible show Sl 7);go_must (refine j7 rfl 97 rfl (ndC ⟨0,0,0,0⟩) l0 ?_);intro g7 w7 hg7 hk7 hw7;have HK7:=kp hk7;have HG7:=kp hg7;have HB7:=kp (HB5.out.trans (hw7.mono hs5));have hs7:=HB7.out.size;clear hk7 hw7 hg7)
            | ((with_reducible show Sn);go_must (refine j5 rfl 97 (.tmp 7) (.tmp 23) rfl g7 (ndC x) rfl rfl _ _ HK7.out jO rfl (l5 x) ?_);intro w8 hk8 hg8 hs8';have HK8:=kp hk8;have HB8:=kp (HB7.out.grown hg8 hs7 (fun k e => by cases e;have:=HG7.out;omega));have hs8:=HB8.out.size;clear hk8 hg8 hs8')
            | ((with_reducible show Sl 26);go_must (refine j4 rfl 97 (.tmp 7) rfl g7 rfl _ (ndC x) _ HK8.out Try.underlying97 rfl jO ?_))
            | (go_at_call 87;go_must (refine (zR x HXok.out _).mono ?_);rintro e w9 ⟨rfl,hb9⟩;rw [HAc.out,HWrb.out]
               have HB9:=kp (HB8.out.trans (hb9.mono hs8));have hs9:=HB9.out.size;have HO9:=kp (HOwn.out.below HB9.out (Nat.le_refl _));clear hb9))
          go_roundw
          case rel => exact ⟨i + 1,by omega,by go_num,by rw [HE.out];exact HO9.out,HBw.out.trans (HB9.out.mono hsz)⟩
          case measure => simp [intOf];omega
    · have he : i = q.len:=by omega
      have HO : Kept (OwnR 3 tcV wr w2.heap.size 139 (.slice A5 n5 c5) (touchesTo p q.cf q.len)):=kp (by rw [← he];exact HOwn.out)
      have hge : q.len ≤ i:=by omega
      clear hlt he
      go_wp2
      go_ret
      exact ⟨_,rfl,HO.out.less hs2,HBW.out⟩
end Go.Proofs.Ytcbfghcdbmlneaa
