/- Early, TextStep, SemP7, in one text. -/
import Derived.Test.YtkblgafackmckaaPq14
import Derived.Test.YtkblgafackmckaaPq10
import Derived.Maps.AppendAt
import Derived.Test.YtkblgafackmckaaPq13
import Derived.Test.YtkblgafackmckaaPq6
/- A statement of several orders that stores behind all that it reads, but for a few plain moves which may come up later (base/XActs' rule, with operations that all acting ones wait for: they see the first phase). -/
namespace Go.Proofs.Ytkblgafackmckaa
open Go.RowKit

/-- All acting ones wait for each of these. -/
def earlyOk (l : List Oper) (acts E : List Nat) : Bool := acts.all fun a => decide (a < l.length) && E.all fun i => ((masks l).getD a 0).testBit i

section
variable {P : Program} {l : List Oper} {Q : Exit → Act → World → Prop} {a0 : Act} {w : World} {G : Nat → Prop} {R : List (GFact G)} {J : Nat → World → Prop} {acts E : List Nat} {D : List (List (Nat × Nat))} {every : List (Nat × Nat)}

theorem early_phase (hok : ∀ i o, l[i]? = some o → ∀ e ∈ o.after, Region.binds .any e = true → e.on < i) (he : earlyOk l acts E = true) {listed : Array Bool} {a : Act} {W : World} {i : Nat} (hi : i ∈ E)
    (h : GInv l acts J R a0 w listed a W) (hlf : listed.getD i false = false) : phase acts listed = 0 := by
  unfold phase
  refine List.countP_eq_zero.2 fun j hj => ?_
  intro hlj
  have h1 := List.all_eq_true.1 he j hj
  rw [Bool.and_eq_true] at h1
  have hjl : j < l.length := by simpa using h1.1
  have h2 := List.all_eq_true.1 h1.2 i hi
  have hshut : ∀ j oj, l[j]? = some oj → listed.getD j false = true → ∀ e ∈ oj.after, Region.binds .any e = true → listed.getD e.on false = true := fun j oj hj => h.shut j oj (by simpa using hj)
  have hjo : l[j]? = some l[j] := List.getElem?_eq_getElem hjl
  have := mask_listed hok hshut j _ hjo (hshut j _ hjo hlj) i h2
  rw [hlf] at this; cases this

/-- What is to be shown of the operations, one after the other. -/
def eobs (P : Program) (ops : Array Oper) (acts E : List Nat) (J : Nat → World → Prop) (R : List (GFact G)) (D : List (List (Nat × Nat))) (w : World) (a0 : Act) : Nat → List Oper → Prop
  | _, [] => True
  | i, o :: r => (if acts.contains i then ∀ W, Only G w W → J (rank acts i) W → ggiven R W (fun a1 => wpList P ops (ActPost G J (rank acts i + 1) a0.defers W o (gfactAt R i)) [o] a1 W) (D.getD i []) a0
      else if E.contains i then ∀ W, Only G w W → J 0 W → ggiven R W (fun a1 => wpList P ops (ActPost G J 0 a0.defers W o (gfactAt R i)) [o] a1 W) (D.getD i []) a0
      else ∀ p W, Only G w W → J p W → ggiven R W (fun a1 => wpList P ops (ActPost G J p a0.defers W o (gfactAt R i)) [o] a1 W) (D.getD i []) a0) ∧ eobs P ops acts E J R D w a0 (i + 1) r
theorem eobs_at {ops : Array Oper} : ∀ (l : List Oper) (k : Nat), eobs P ops acts E J R D w a0 k l → ∀ j o, l[j]? = some o →
    if acts.contains (k + j) then ∀ W, Only G w W → J (rank acts (k + j)) W → ggiven R W (fun a1 => wpList P ops (ActPost G J (rank acts (k + j) + 1) a0.defers W o (gfactAt R (k + j))) [o] a1 W) (D.getD (k + j) []) a0
      else if E.contains (k + j) then ∀ W, Only G w W → J 0 W → ggiven R W (fun a1 => wpList P ops (ActPost G J 0 a0.defers W o (gfactAt R (k + j))) [o] a1 W) (D.getD (k + j) []) a0
      else ∀ p W, Only G w W → J p W → ggiven R W (fun a1 => wpList P ops (ActPost G J p a0.defers W o (gfactAt R (k + j))) [o] a1 W) (D.getD (k + j) []) a0
  | [], _, _, j, o, h => by simp at h
  | x :: l, k, ho, 0, o, h => by
    simp at h; subst h
    exact ho.1
  | x :: l, k, ho, j + 1, o, h => by
    have := eobs_at l (k + 1) ho.2 j o (by simpa using h)
    rw [show k + (j + 1) = k + 1 + j by omega]
    exact this
theorem eobs_nil {ops : Array Oper} {i : Nat} : eobs P ops acts E J R D w a0 i [] := trivial
theorem eobs_calm {ops : Array Oper} {i : Nat} {o : Oper} {r : List Oper} (hn : acts.contains i = false) (he : E.contains i = false) (h : ∀ p W, Only G w W → J p W → ggiven R W (fun a1 => wpList P ops (ActPost G J p a0.defers W o (gfactAt R i)) [o] a1 W) (D.getD i []) a0) (hr : eobs P ops acts E J R D w a0 (i + 1) r) : eobs P ops acts E J R D w a0 i (o :: r) :=
  ⟨by rw [if_neg (by rw [hn]; decide), if_neg (by rw [he]; decide)]; exact h, hr⟩
theorem eobs_early {ops : Array Oper} {i : Nat} {o : Oper} {r : List Oper} (hn : acts.contains i = false) (he : E.contains i = true) (h : ∀ W, Only G w W → J 0 W → ggiven R W (fun a1 => wpList P ops (ActPost G J 0 a0.defers W o (gfactAt R i)) [o] a1 W) (D.getD i []) a0) (hr : eobs P ops acts E J R D w a0 (i + 1) r) : eobs P ops acts E J R D w a0 i (o :: r) :=
  ⟨by rw [if_neg (by rw [hn]; decide), if_pos he]; exact h, hr⟩
theorem eobs_act {ops : Array Oper} {i : Nat} {o : Oper} {r : List Oper} (q : Nat) (hq : rank acts i = q) (hn : acts.contains i = true) (h : ∀ W, Only G w W → J q W → ggiven R W (fun a1 => wpList P ops (ActPost G J (q + 1) a0.defers W o (gfactAt R i)) [o] a1 W) (D.getD i []) a0) (hr : eobs P ops acts E J R D w a0 (i + 1) r) : eobs P ops acts E J R D w a0 i (o :: r) :=
  ⟨by rw [if_pos hn, hq]; exact h, hr⟩

/-- THE RULE. -/
theorem region_early {id : Nat} (G : Nat → Prop) (acts E : List Nat) (J : Nat → World → Prop) (R : List (GFact G)) (D : List (List (Nat × Nat))) (every : List (Nat × Nat)) (hm : P.follows .mixedOrders = true) (hok : partsOk l.toArray D every a0.tmps.size = true)
    (hacts : actsOk l acts = true) (hearly : earlyOk l acts E = true) (hnd : acts.Nodup) (h0 : J 0 w.drew) (hob : eobs P l.toArray acts E J R D w a0 0 l) (hend : ∀ W, Only G w W → J acts.length W → ggiven R W (fun a => Q .normal a W) every a0) : (Code.region id l.toArray true).wp P Q a0 w := by
  unfold partsOk at hok
  simp only [Bool.and_eq_true] at hok
  have ok : ∀ i o, l.toArray[i]? = some o → OpOk l.toArray D every a0.tmps.size i o := fun i o hi => OpOk.of (by
    have := List.all_eq_true.1 hok.1 i (List.mem_range.2 (Array.getElem?_eq_some_iff.1 hi).1)
    rw [hi] at this
    exact this)
  have hev : ∀ p ∈ every, ∃ oj, l.toArray[p.1]? = some oj ∧ oj.dst = some p.2 := fun p hp => by
    have := List.all_eq_true.1 hok.2 p hp
    obtain ⟨oj, h6, h7⟩ := Option.bind_eq_some_iff.1 (beq_iff_eq.1 this)
    exact ⟨oj, h6, h7⟩
  have hacts2 : ∀ i ∈ acts, i < l.length := fun i hi => by
    have := List.all_eq_true.1 hacts i hi
    rw [Bool.and_eq_true] at this
    simpa using this.1
  have hback : ∀ i o, l[i]? = some o → ∀ e ∈ o.after, Region.binds .any e = true → e.on < i := fun i o hi => (ok i o (by simpa using hi)).back
  refine wp_region_any hm (acts_any hacts2 ok hev (fun i o hi listed a W h hr => ?_) hend l.toArray.size _ a0 _ ⟨by simp, ⟨rfl, rfl, rfl, Nat.le_refl _, fun _ _ _ => rfl⟩, ?_, rfl, rfl, fun j oj d hj _ hl => ?_, fun _ _ => rfl, fun j oj hj hl => ?_⟩ (by simp))
  · have h1 := eobs_at l 0 hob i o (by simpa using hi)
    rw [Nat.zero_add] at h1
    obtain ⟨hl, o', hi', hall'⟩ := mem_ready.1 hr
    have hall : ∀ e ∈ o.after, Region.binds .any e = true → listed.getD e.on false = true := by
      rw [hi] at hi'; cases hi'; exact hall'
    have hilt : i < listed.size := by rw [h.size]; have := (Array.getElem?_eq_some_iff.1 hi).1; simpa using this
    have hlf : listed.getD i false = false := by
      simp [hilt] at hl ⊢; exact hl
    by_cases ha : i ∈ acts
    · rw [if_pos (by simpa using ha)] at h1
      have hp := act_ready hback hacts (by simpa using hi) ha h hall hlf
      rw [phase_next hnd ha hilt hlf, hp]
      exact h1 W h.ext (by rw [← hp]; exact h.ph)
    · rw [if_neg (by simpa using ha)] at h1
      rw [phase_other acts listed i ha]
      by_cases hE : i ∈ E
      · rw [if_pos (by simpa using hE)] at h1
        have hp0 := early_phase hback hearly hE h hlf
        rw [hp0]
        exact h1 W h.ext (by rw [← hp0]; exact h.ph)
      · rw [if_neg (by simpa using hE)] at h1
        exact h1 _ W h.ext h.ph
  · have : phase acts (Array.replicate l.toArray.size false) = 0 := by
      unfold phase
      refine List.countP_eq_zero.2 fun j hj => ?_
      have := hacts2 j hj
      simp [this]
    rw [this]; exact h0
  all_goals
    exfalso
    have hlt : j < l.toArray.size := (Array.getElem?_eq_some_iff.1 hj).1
    have hlt2 : j < l.length := by simpa using hlt
    simp [hlt2] at hl
end

/-- The end of an operation that acts and has no slot. -/
theorem act_post0 {G : Nat → Prop} {J : Nat → World → Prop} {p : Nat} {D : List Deferred} {W W' : World} {o : Oper} {a : Act} (hd : a.defers = D) (hb : Only G W W') (hj : J p W') : ActPost G J p D W o (GFact.any G) .normal a W' := ⟨hd, hb, hj, trivial⟩
theorem Only.set {G : Nat → Prop} {W : World} {g k : Nat} {v : Value} (hg : G g) : Only G W (W.setCell ⟨g, k, none⟩ v) := Only.of_grown (g := g) (grown_set (grown_refl _ _)) hg
end Go.Proofs.Ytkblgafackmckaa

/- append of a struct to a slice that the call made: where there is room, and where there is none. -/
namespace Go.Proofs.Ytkblgafackmckaa
open Go.RowKit

section
variable {P : Program} {ops : Array Oper} {rest : List Oper} {o : Oper} {a : Act} {w : World} {Q : Exit → Act → World → Prop} {α : Type}

theorem blk_news {e : TypeId} {gn : Nat} {vs : List Value} (h : Blk w gn e vs) : ∀ j y, vs[j]? = some y → w.cell? ((⟨gn, 0, none⟩ : Addr).add j) = some y := fun j y hy => by
  have hadd : (⟨gn, 0, none⟩ : Addr).add j = ⟨gn, j, none⟩ := by unfold Addr.add; split <;> simp_all
  rw [hadd, h.cell j]; exact hy
/-- There is room: the same block. -/
theorem wpList_append_room (hgd : o.guard = none) (s x : Operand) (t : TypeId)
    (ho : o.op = .call { callee := .builtin .append, args := #[s, x], argTypes := #[t, t] })
    (B : Nat) (e : TypeId) (sz : Nat) (z : Value) (bytes : Nat) (ht : P.underlying t = some (.slice e)) (hi : (P.info? e).map (fun i => (i.zero, i.size, i.bytes)) = some (some z, sz, bytes)) (hzs : z.cells.size = sz) (hsz : 0 < sz)
    (f : α → Nat → Value) (hone : ∀ x j, (f x j).oneCell' = true)
    (q cap : Nat) (l : List α) (u : α) (hs : a.eval s = .slice (some ⟨q, 0, none⟩) l.length cap) (hown : OwnR sz f w B e (.slice (some ⟨q, 0, none⟩) l.length cap) l) (hroom : l.length + 1 ≤ cap)
    (gn c : Nat) (hx : a.eval x = .slice (some ⟨gn, 0, none⟩) 1 c) (hbk : Blk w gn e ((List.range sz).map (f u))) (hbytes : (l.length + 1) * bytes ≤ 140737488355328)
    (h : ∀ w', OwnR sz f w' B e (.slice (some ⟨q, 0, none⟩) (l.length + 1) cap) (l ++ [u]) → w.grownBy w' (some q) → wpList P ops Q rest (a.put o.dst (.slice (some ⟨q, 0, none⟩) (l.length + 1) cap)) w') : wpList P ops Q (o :: rest) a w := by
  obtain ⟨i, hi0, hzz⟩ := Option.map_eq_some_iff.1 hi
  simp only [Prod.mk.injEq] at hzz
  obtain ⟨hz, hsize, hby⟩ := hzz
  have hone' : ∀ y ∈ (List.range sz).map (f u), y.oneCell' = true := fun y hy => by
    obtain ⟨j, _, rfl⟩ := List.mem_map.1 hy
    exact hone u j
  rcases hown.2 with ⟨hv, _⟩ | ⟨q', cap', cur, hv, hBq, hg, hn, hm, hcs, ht2⟩
  · cases hv
  injection hv with e1 _ e3
  cases e1
  subst e3
  have hlt : q < w.heap.size := (Array.getElem?_eq_some_iff.1 hg).1
  obtain ⟨v', w', hr, h2, h3, _⟩ := run_append_own_at (P := P) w B t o.type e i z sz bytes ht hi0 hz hsize hby hzs hsz _ l.length (cellsR sz f l) hown ⟨gn, 0, none⟩ 1 c ((List.range sz).map (f u)) (by simp) (blk_news hbk) hone'
    (by omega) hbytes (by omega)
  have hr2 := run_append_room (P := P) w t o.type e i ht hi0 q l.length cap cur hg ⟨gn, 0, none⟩ 1 c ((List.range sz).map (f u)) (by rw [hsize]; simp) (blk_news hbk) hone' hroom (by
    rw [hsize, hcs]
    have h9 := Nat.mul_le_mul_right sz hroom
    simp [Nat.add_mul] at h9 ⊢; omega)
  rw [hr] at hr2
  injection hr2 with e1 e2
  subst e1
  refine wpList_plain hgd fun K hK => ?_
  unfold Oper.wp execOp
  simp only [ho, resolve, invoke, builtin, Sem.run_bind, Sem.run_pure, Result.andThen_ok, List.map_toArray, List.map_cons, List.map_nil, hs, hx, hr]
  refine hK _ _ (h w' ?_ h3)
  unfold OwnR
  rw [List.length_append, List.length_singleton, cellsR_app]
  have e1 : cellsR sz f [u] = (List.range sz).map (f u) := by simp [cellsR]
  rw [e1]
  exact h2
/-- There is none: a new block; nothing that stood has turned. -/
theorem wpList_append_full (hgd : o.guard = none) (s x : Operand) (t : TypeId)
    (ho : o.op = .call { callee := .builtin .append, args := #[s, x], argTypes := #[t, t] })
    (B : Nat) (e : TypeId) (sz : Nat) (z : Value) (bytes : Nat) (ht : P.underlying t = some (.slice e)) (hi : (P.info? e).map (fun i => (i.zero, i.size, i.bytes)) = some (some z, sz, bytes)) (hzs : z.cells.size = sz) (hsz : 0 < sz)
    (f : α → Nat → Value) (hone : ∀ x j, (f x j).oneCell' = true)
    (v : Value) (l : List α) (u : α) (hs : a.eval s = v) (hown : OwnR sz f w B e v l) (hfull : v = .slice none 0 0 ∨ ∃ q, v = .slice (some ⟨q, 0, none⟩) l.length l.length)
    (gn c : Nat) (hx : a.eval x = .slice (some ⟨gn, 0, none⟩) 1 c) (hbk : Blk w gn e ((List.range sz).map (f u))) (h63 : l.length + 1 ≤ maxLen) (hbytes : (l.length + 1) * bytes ≤ 140737488355328) (hB : B ≤ w.heap.size)
    (h : ∀ v' w', OwnR sz f w' B e v' (l ++ [u]) → Below w.heap.size w w' → v'.ownBlock = some w.heap.size → wpList P ops Q rest (a.put o.dst v') w') : wpList P ops Q (o :: rest) a w := by
  obtain ⟨i, hi0, hzz⟩ := Option.map_eq_some_iff.1 hi
  simp only [Prod.mk.injEq] at hzz
  obtain ⟨hz, hsize, hby⟩ := hzz
  have hone' : ∀ y ∈ (List.range sz).map (f u), y.oneCell' = true := fun y hy => by
    obtain ⟨j, _, rfl⟩ := List.mem_map.1 hy
    exact hone u j
  obtain ⟨v', w', hr, h2, h3, _, h5⟩ := run_append_own_at (P := P) w B t o.type e i z sz bytes ht hi0 hz hsize hby hzs hsz v l.length (cellsR sz f l) hown ⟨gn, 0, none⟩ 1 c ((List.range sz).map (f u)) (by simp) (blk_news hbk) hone'
    h63 hbytes hB
  have hsm : l.length + 1 ≤ 9223372036854775807 := by unfold maxLen at h63; omega
  have hnew : ∃ cs k, w' = w.drew.alloc (.cells cs e) ∧ v' = .slice (some ⟨w.heap.size, 0, none⟩) (l.length + 1) k := by
    rcases hfull with rfl | ⟨q, rfl⟩
    · have hl0 : l.length = 0 := by
        rcases hown.2 with ⟨_, h0⟩ | ⟨q', cap', cur, hv, _⟩
        · exact h0
        · cases hv
      have hr2 := run_append_nil (P := P) w t o.type e i z ht hi0 hz ⟨gn, 0, none⟩ 1 c ((List.range sz).map (f u)) (by rw [hsize]; simp) (blk_news hbk) (by omega) (by omega) (by rw [hby]; have := hbytes; rw [hl0] at this; omega)
      rw [hr] at hr2
      injection hr2 with e1 e2
      exact ⟨_, _, e2, by rw [e1, hl0]⟩
    · have holds : ∀ j y, (cellsR sz f l)[j]? = some y → w.cell? ((⟨q, 0, none⟩ : Addr).add j) = some y := World.ownsRow.cells hown (g := q) rfl
      have hr2 := run_append_grow (P := P) w t o.type e i z ht hi0 hz ⟨q, 0, none⟩ l.length l.length (cellsR sz f l) (by rw [hsize, cellsR_len]) holds ⟨gn, 0, none⟩ 1 c ((List.range sz).map (f u)) (by rw [hsize]; simp) (blk_news hbk) (by omega) (by omega) (by rw [hby]; exact growslice_fits (by omega) (by omega))
      rw [hr] at hr2
      injection hr2 with e1 e2
      exact ⟨_, _, e2, e1⟩
  obtain ⟨cs, k, rfl, rfl⟩ := hnew
  refine wpList_plain hgd fun K hK => ?_
  unfold Oper.wp execOp
  simp only [ho, resolve, invoke, builtin, Sem.run_bind, Sem.run_pure, Result.andThen_ok, List.map_toArray, List.map_cons, List.map_nil, hs, hx, hr]
  refine hK _ _ (h _ _ ?_ ?_ rfl)
  · unfold OwnR
    rw [List.length_append, List.length_singleton, cellsR_app]
    have e1 : cellsR sz f [u] = (List.range sz).map (f u) := by simp [cellsR]
    rw [e1]
    exact h2
  · exact ⟨rfl, rfl, rfl, by simp, fun k hk => Below.heap_alloc w.drew _ k hk⟩
end
end Go.Proofs.Ytkblgafackmckaa

/- The program's interpreter, walked: what nodes do. -/
namespace Go.Proofs.Ytkblgafackmckaa
open Go.RowKit

/-- A turn's cells. -/
def turnC (gN k : Nat) (way : Bool) (x : Nd) : List Value := [.pointer (some ⟨gN, 0, none⟩), .int .i64 (k : Int), .bool way, .int .i64 x.kind, .int .i64 x.arg, .int .i64 x.next, .int .i64 x.alt]
theorem put_none_d (a : Act) (v : Value) : a.put none v = a := rfl

set_option maxRecDepth 100000 in
set_option maxHeartbeats 800000 in
/-- Whose turn it is. -/
theorem sem_thread (gU gN gT k n c : Nat) (way : Bool) (x : Nd) (w : World) (hu : Blk w gU 92 (turnC gN k way x)) (hn : w.cell? ⟨gN, 0, none⟩ = some (.slice (some ⟨gT, 0, none⟩) n c)) (hk : k < n) :
    Calls Try.prog 61 #[.pointer (some ⟨gU, 0, none⟩)] w fun e w' => e = .returned (.pointer (some ⟨gT, k * 9, none⟩)) ∧ ∃ m, w' = w.drewN m := by
  have h0 := hu.cell 0; have h1 := hu.cell 1
  simp only [turnC, List.getElem?_cons_zero, List.getElem?_cons_succ] at h0 h1
  have hkn : (k : Int) < (n : Int) := by omega
  clear hu
  go_enter Try.func61, Try.ntmps61
  go_wp2
  go_quiet (fail)
  go_wp2
  go_ret
  exact ⟨rfl, _, rfl⟩


set_option maxRecDepth 100000 in
set_option maxHeartbeats 1600000 in
theorem sem_goOn (B gN gU k : Nat) (q : Pc) (x : Nd) (way : Bool) (th : Tv) (w : World) (hst : St w B gN gU q) (hu : Blk w gU 92 (turnC gN k way x)) (hkl : k < q.len) (hth : q.tvs[k]? = some th) (hs0 : 0 < th.sv.len) (hlen16 : th.sv.len ≤ 1000) (_h8 : q.len ≤ 8) (nx : Nat) (hnx : x.next = (nx : Int)) :
    Calls Try.prog 50 #[.pointer (some ⟨gU, 0, none⟩)] w fun e w' => e = .returned (.tuple #[]) ∧ St w' B gN gU (q.put k (tvGo th nx)) ∧ Blk w' gU 92 (turnC gN k way x) ∧ Below B w w' := by
  obtain ⟨gT, curT, th', hA, hbT, hth', hcT0, hcTj, hTN, hTU, hBT, hsl, hthc, hcTl⟩ := hst.thread hkl
  rw [hth] at hth'
  cases hth'
  obtain ⟨gS, cur, hSA, hbS, hlen, hSN, hSU, hBS, hput⟩ := hst.goes hth hs0
  have hbound := hst.ok
  have hqc := hbound.lc; have hqm := hbound.cm
  unfold maxLen at hqm
  have HE : Kept (pcC q = .slice (some ⟨gT, 0, none⟩) q.len q.cap :: q.ow.map natV) := kp (by unfold pcC; rw [hA])
  have hgN := hst.conf.lt; have hgU := hu.lt; have hgT := hbT.lt; have hgS := hbS.lt
  have HSt := kp hst; have HK := kp hu; have HT := kp hbT; have HS := kp hbS; have HPut := kp hput
  have hxc := hbound.svs th (List.mem_of_getElem? hth)
  have hxc2 := hxc.lc; have hxm := hxc.cm
  unfold maxLen at hxm
  rw [hSA] at hcT0
  have HC0 := kp hcT0
  have hlow := hst.low.1
  have hBw : B ≤ w.heap.size := by omega
  have HLow := kp hst.low
  obtain ⟨n, hn⟩ : ∃ n, th.sv.len = n := ⟨_, rfl⟩
  obtain ⟨cp, hcp⟩ : ∃ cp, th.sv.cap = cp := ⟨_, rfl⟩
  have HThl := kp hn
  rw [hn] at HC0 hs0 hlen16 hxc2 hlen HPut
  rw [hcp] at HC0 hxc2 hxm
  have HB : Kept (Below B w w) := kp (Below.refl _ _)
  clear hst hu hth hput hbT hbS hcT0 hcTj hthc hcTl hsl hbound hxc hn hcp hSA hA
  go_enter Try.func50, Try.ntmps50
  go_wp2
  apply region_tail 10 (.is _ :: .is _ :: .is _ :: .is _ :: .is _ :: .is _ :: .is _ :: .is _ :: .is _ :: .is _ :: [])
    [[], [(0, 2)], [(1, 3)], [], [(3, 5)], [(4, 6)], [(5, 7)], [(6, 8)], [(2, 4)], [(8, 10)], [(9, 11), (7, 9)]]
    [(0, 2), (1, 3), (2, 4), (3, 5), (4, 6), (5, 7), (6, 8), (7, 9), (8, 10), (9, 11)] (by kernel_rfl) (by kernel_rfl) (by kernel_rfl) (by kernel_rfl) (by kernel_rfl)
  case hob =>
    refine ⟨?o0, ?o1, ?o2, ?o3, ?o4, ?o5, ?o6, ?o7, ?o8, ?o9, trivial⟩
    case o0 => intro W hW; change wpList _ _ _ _ _ _; go_wp2; exact pure_post rfl rfl rfl
    case o1 =>
      intro W hW; rintro _ rfl; change wpList _ _ _ _ _ _
      have hCu := (HK.out.below hW hgU)
      have hCn := ((HSt.out.conf.below hW hgN).cell 0)
      rw [HE.out, List.getElem?_cons_zero] at hCn
      have HC := kp (sem_thread gU gN gT k q.len q.cap way x W hCu hCn hkl)
      clear hCu hCn
      go_wp2_with fail
      refine (HC.out).mono ?_
      rintro e w2 ⟨rfl, m, rfl⟩
      go_wp2
      exact made_post rfl rfl rfl (below_drewN (Below.refl _ _) m) rfl
    case o2 =>
      intro W hW; rintro _ rfl; change wpList _ _ _ _ _ _
      have hc := (HT.out.below hW hgT).cell (k * 9)
      rw [HC0.out] at hc
      have hC := sem_last ⟨gT, k * 9, none⟩ ⟨gS, 0, none⟩ n cp W hs0 hlen16 hc
      rw [add_start] at hC
      have HC := kp hC
      clear hc hC
      go_wp2_with fail
      refine (HC.out).mono ?_
      rintro e w2 ⟨rfl, m, rfl⟩
      go_wp2
      exact made_post rfl rfl rfl (below_drewN (Below.refl _ _) m) rfl
    case o3 => intro W hW; change wpList _ _ _ _ _ _; go_wp2; exact pure_post rfl rfl rfl
    case o4 => intro W hW; rintro _ rfl; change wpList _ _ _ _ _ _; go_wp2; exact pure_post rfl rfl rfl
    case o5 => intro W hW; rintro _ rfl; change wpList _ _ _ _ _ _; go_wp2; exact pure_post rfl rfl rfl
    case o6 => intro W hW; rintro _ rfl; change wpList _ _ _ _ _ _; go_wp2; exact pure_post rfl rfl rfl
    case o7 =>
      intro W hW; rintro _ rfl; change wpList _ _ _ _ _ _
      have hc := (HK.out.below hW hgU).cell 5
      simp only [turnC, List.getElem?_cons_zero, List.getElem?_cons_succ] at hc
      go_wp2; exact pure_post rfl rfl rfl
    case o8 => intro W hW; rintro _ rfl; change wpList _ _ _ _ _ _; go_wp2; exact pure_post rfl rfl rfl
    case o9 => intro W hW; rintro _ rfl; change wpList _ _ _ _ _ _; go_wp2; exact pure_post rfl rfl rfl
  case hend =>
    intro W hW; rintro _ rfl; rintro _ rfl; rintro _ rfl; rintro _ rfl; rintro _ rfl; rintro _ rfl; rintro _ rfl; rintro _ rfl; rintro _ rfl; rintro _ rfl
    simp only [given, put_lit, List.set, List.drop]
    have HKw := kp (HS.out.below hW hgS)
    have HStw := kp (HSt.out.below hW (Nat.le_refl _))
    have HBw := kp (hW.mono hBw)
    have HKu := kp (HK.out.below hW hgU)
    have hWs := hW.size
    have HWg := kp hW
    have hsw := HBw.out.size
    clear hW
    go_wp2_with (first
      | ((with_reducible show wpList _ _ _ (⟨none, _, _, _, _, _⟩ :: _) _ _); go_must (refine wpList_store_cell rfl 3 (.tmp 11) (.tmp 9) rfl gS ((n - 1) * 2 + 1) (.int .i64 (nx : Int)) rfl rfl rfl rfl _ _ HKw.out hlen size1i ?_); intro w5 hk5 hg5 hs5; have HFin := kp (HPut.out W w5 nx HWg.out hk5 hg5 hs5); have HKu5 := kp (HKu.out.grown hg5 (fun e => hSU (by cases e; rfl))); have HB5 := kp (HBw.out.grown hg5 (by omega) (fun k e => by cases e; exact hBS)); clear hk5 hg5))
    go_end0
    exact ⟨rfl, HFin.out, HKu5.out, HB5.out⟩
end Go.Proofs.Ytkblgafackmckaa
