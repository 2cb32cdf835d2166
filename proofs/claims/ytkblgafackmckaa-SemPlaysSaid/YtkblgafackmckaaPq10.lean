/- SemMath, SemMath2, Owns, in one text. -/
import Derived.Test.YtkblgafackmckaaPq9
import Derived.Test.YtkblgafackmckaaPq2
import Derived.Test.YtkblgafackmckaaPq1
/- The interpreter, on plain data: configs, steps, what stays true. Nothing here speaks of the program. -/
namespace Go.Proofs.Ytkblgafackmckaa.M

/-- A thread. -/
structure Th where
  stack : List (Nat × Nat)
  slots : List Nat
instance : Inhabited Th := ⟨⟨[], []⟩⟩
/-- A config. -/
structure Cf where
  ths : List Th
  owners : List Nat
def start : Cf := ⟨[⟨[(0, 0)], List.replicate 8 0⟩], List.replicate 16 0⟩
def th (c : Cf) (t : Nat) : Th := c.ths.getD t default
def livesN (c : Cf) (t : Nat) : Bool := decide (0 < (th c t).stack.length)
def lives (c : Cf) (t : Int) : Bool := decide (0 ≤ t) && livesN c t.toNat
def top (s : List (Nat × Nat)) : Nat × Nat := s.getD (s.length - 1) (0, 0)
def nodeAt (p : Pg) (x : Nat × Nat) : Nd := (p.fns.getD x.1 default).nodes.getD x.2 default
def node (p : Pg) (c : Cf) (t : Nat) : Nd := nodeAt p (top (th c t).stack)
def enabledN (p : Pg) (c : Cf) (t : Nat) : Bool :=
  livesN c t &&
    (if (node p c t).kind = 3 then decide (c.owners.getD (node p c t).arg.toNat 0 = 0)
     else if (node p c t).kind = 6 then !lives c (((th c t).slots.getD (node p c t).arg.toNat 0 : Int) - 1)
     else if (node p c t).kind = 5 then decide (c.ths.length < 8) else true)
def enabled (p : Pg) (c : Cf) (t : Int) : Bool := decide (0 ≤ t) && enabledN p c t.toNat
/-- The last place, at another node. -/
def goOn (s : List (Nat × Nat)) (n : Nat) : List (Nat × Nat) := s.set (s.length - 1) ((top s).1, n)
/-- What a thread that may does at a node. -/
def act (c : Cf) (t : Nat) (n : Nd) (way : Bool) : Cf :=
  if n.kind = 9 then ⟨c.ths.set t ⟨(th c t).stack.take ((th c t).stack.length - 1), (th c t).slots⟩, c.owners⟩
  else if n.kind = 3 then ⟨c.ths.set t ⟨goOn (th c t).stack n.next.toNat, (th c t).slots⟩, c.owners.set n.arg.toNat (t + 1)⟩
  else if n.kind = 4 then ⟨c.ths.set t ⟨goOn (th c t).stack n.next.toNat, (th c t).slots⟩, if c.owners.getD n.arg.toNat 0 = t + 1 then c.owners.set n.arg.toNat 0 else c.owners⟩
  else if n.kind = 5 then ⟨c.ths.set t ⟨goOn (th c t).stack n.next.toNat, (th c t).slots.set n.alt.toNat (c.ths.length + 1)⟩ ++ [⟨[(n.arg.toNat, 0)], List.replicate 8 0⟩], c.owners⟩
  else if n.kind = 7 then ⟨c.ths.set t ⟨goOn (th c t).stack n.next.toNat ++ [(n.arg.toNat, 0)], (th c t).slots⟩, c.owners⟩
  else if n.kind = 8 ∧ way = true then ⟨c.ths.set t ⟨goOn (th c t).stack n.alt.toNat, (th c t).slots⟩, c.owners⟩
  else ⟨c.ths.set t ⟨goOn (th c t).stack n.next.toNat, (th c t).slots⟩, c.owners⟩
def stepN (p : Pg) (c : Cf) (t : Nat) (way : Bool) : Cf := if enabledN p c t = true then act c t (node p c t) way else c
/-- Behind a pick. -/
def step (p : Pg) (c : Cf) (t : Int) (way : Bool) : Cf := if enabled p c t = true then act c t.toNat (node p c t.toNat) way else c
/-- The locks among the first n that thread t has, as a mask. -/
def heldTo (o : List Nat) (t : Nat) : Nat → Nat
  | 0 => 0
  | k + 1 => if o.getD k 0 = t + 1 then heldTo o t k ||| 2 ^ k else heldTo o t k
def held (c : Cf) (t : Int) : Nat := if 0 ≤ t ∧ t < (c.ths.length : Int) then heldTo c.owners t.toNat 16 else 0

theorem held_bit (o : List Nat) (t : Nat) : ∀ n k, (heldTo o t n).testBit k = decide (k < n ∧ o.getD k 0 = t + 1)
  | 0, k => by simp [heldTo]
  | n + 1, k => by
    have ih := held_bit o t n k
    unfold heldTo
    by_cases h : o.getD n 0 = t + 1
    · rw [if_pos h, Nat.testBit_or, ih, Nat.testBit_two_pow]
      by_cases e : n = k
      · subst e
        rw [decide_eq_true rfl, Bool.or_true, decide_eq_true (show n < n + 1 ∧ o.getD n 0 = t + 1 from ⟨by omega, h⟩)]
      · rw [decide_eq_false e, Bool.or_false]
        rw [Bool.eq_iff_iff]; simp only [decide_eq_true_eq]
        constructor
        · rintro ⟨a, b⟩; exact ⟨by omega, b⟩
        · rintro ⟨a, b⟩; exact ⟨by omega, b⟩
    · rw [if_neg h, ih, Bool.eq_iff_iff]; simp only [decide_eq_true_eq]
      constructor
      · rintro ⟨a, b⟩; exact ⟨by omega, b⟩
      · rintro ⟨a, b⟩
        refine ⟨?_, b⟩
        have : k ≠ n := fun e => h (by rw [← e]; exact b)
        omega
theorem held_lt (o : List Nat) (t : Nat) : ∀ n, heldTo o t n < 2 ^ n
  | 0 => by simp [heldTo]
  | n + 1 => by
    have ih := held_lt o t n
    have h2 : 2 ^ n < 2 ^ (n + 1) := Nat.pow_lt_pow_right (by decide) (by omega)
    unfold heldTo
    split
    · exact Nat.or_lt_two_pow (by omega) h2
    · omega
theorem held_ids (o : List Nat) (t n : Nat) : S.ids (heldTo o t n) n = (List.range n).filter fun k => decide (o.getD k 0 = t + 1) := by
  unfold S.ids
  refine List.filter_congr fun k hk => ?_
  rw [held_bit]
  simp [List.mem_range.1 hk]
theorem held_mask (o : List Nat) (t n : Nat) : S.mask ((List.range n).filter fun k => decide (o.getD k 0 = t + 1)) = heldTo o t n := by
  rw [← held_ids, S.mask_ids, Nat.mod_eq_of_lt (held_lt o t n)]

/-- Each function calls the next one. -/
def Linked (p : Pg) (l : List Nat) : Prop := ∀ i a b, l[i]? = some a → l[i + 1]? = some b → Q.calls p a b
/-- What stays true behind all steps. -/
structure Good (p : Pg) (c : Cf) : Prop where
  one : 1 ≤ c.ths.length
  most : c.ths.length ≤ 8
  owns : c.owners.length = 16
  own : ∀ o ∈ c.owners, o ≤ c.ths.length
  eight : ∀ x ∈ c.ths, x.slots.length = 8
  slot : ∀ x ∈ c.ths, ∀ s ∈ x.slots, s ≤ 8
  spot : ∀ x ∈ c.ths, ∀ f ∈ x.stack, ∃ fn, p.fns[f.1]? = some fn ∧ f.2 < fn.nodes.length
  chain : ∀ x ∈ c.ths, Linked p (x.stack.map (·.1))

theorem fine_node {p : Pg} (hf : Fine p) {f i : Nat} {fn : Fn} {x : Nd} (hfn : p.fns[f]? = some fn) (hx : fn.nodes[i]? = some x) : Q.may p.g p.l p.s p.len x fn.nodes.length = true :=
  (Q.fine_fn hfn (hf.nodes f (List.getElem?_eq_some_iff.1 hfn).1)).2.2 i x hx
theorem fine_len {p : Pg} (hf : Fine p) {f : Nat} {fn : Fn} (hfn : p.fns[f]? = some fn) : 0 < fn.nodes.length :=
  (Q.fine_fn hfn (hf.nodes f (List.getElem?_eq_some_iff.1 hfn).1)).1

/-- What a node that may be has, by its kind. -/
structure Fit (p : Pg) (x : Nd) (nodes : Nat) : Prop where
  kind : 0 ≤ x.kind ∧ x.kind ≤ 9
  next : 0 ≤ x.next
  nextLt : x.kind ≠ 9 → x.next < nodes
  alt : 0 ≤ x.alt
  arg : 0 ≤ x.arg
  lock : x.kind = 3 ∨ x.kind = 4 → x.arg < 16
  join : x.kind = 6 → x.arg < 8
  spawn : x.kind = 5 → x.arg < p.len ∧ x.alt < 8
  call : x.kind = 7 → x.arg < p.len
  branch : x.kind = 8 → x.alt < nodes
theorem fit_of {p : Pg} (hc : Q.Counts p) {x : Nd} {nodes : Nat} (h : Q.may p.g p.l p.s p.len x nodes = true) (h0 : 0 < nodes) : Fit p x nodes := by
  have hl := hc.l; have hs := hc.s
  unfold Q.may at h
  simp only [Bool.and_eq_true, decide_eq_true_eq, List.all_eq_true, List.mem_range] at h
  obtain ⟨hr, hall⟩ := h
  have hk : 0 ≤ x.kind ∧ x.kind ≤ 9 := by
    unfold Q.row at hr
    by_cases hb : x.kind < 0 ∨ 9 < x.kind
    · rw [if_pos hb] at hr; exact absurd rfl hr
    · omega
  have a0 := hall 0 (by omega)
  have a1 := hall 1 (by omega)
  have a2 := hall 2 (by omega)
  simp only [Q.fields, List.getD_cons_zero, List.getD_cons_succ] at a0 a1 a2
  have hrow : Q.row x.kind = Q.rows.getD x.kind.toNat [] := by unfold Q.row; rw [if_neg (by omega)]
  rw [hrow] at a0 a1 a2
  obtain ⟨k, hkk⟩ : ∃ k : Nat, x.kind = (k : Int) := ⟨x.kind.toNat, by omega⟩
  rw [hkk] at a0 a1 a2
  simp only [Int.toNat_natCast] at a0 a1 a2
  have hmax : max (nodes : Int) 1 = nodes := by omega
  have hk9 : k ≤ 9 := by omega
  have cases_ : k = 0 ∨ k = 1 ∨ k = 2 ∨ k = 3 ∨ k = 4 ∨ k = 5 ∨ k = 6 ∨ k = 7 ∨ k = 8 ∨ k = 9 := by omega
  rcases cases_ with rfl | rfl | rfl | rfl | rfl | rfl | rfl | rfl | rfl | rfl <;>
    simp [Q.rows, Q.size, hmax] at a0 a1 a2 <;>
    (refine ⟨hk, by omega, fun h => by omega, by omega, by omega, fun h => by omega, fun h => by omega, fun h => by omega, fun h => by omega, fun h => by omega⟩)

theorem th_mem {c : Cf} {t : Nat} (h : t < c.ths.length) : th c t ∈ c.ths := by
  unfold th; rw [List.getD_eq_getElem?_getD, List.getElem?_eq_getElem h]; exact List.getElem_mem h
theorem th_at {c : Cf} {t : Nat} (h : t < c.ths.length) : c.ths[t]? = some (th c t) := by
  unfold th; rw [List.getD_eq_getElem?_getD, List.getElem?_eq_getElem h]; rfl
theorem th_is {c : Cf} {t : Nat} {x : Th} (h : c.ths[t]? = some x) : th c t = x := by unfold th; rw [List.getD_eq_getElem?_getD, h]; rfl
theorem lives_lt {c : Cf} {t : Nat} (h : livesN c t = true) : t < c.ths.length := by
  rcases Nat.lt_or_ge t c.ths.length with h1 | h1
  · exact h1
  · exfalso
    unfold livesN th at h
    rw [List.getD_eq_getElem?_getD, List.getElem?_eq_none h1] at h
    exact absurd h (by decide)
theorem top_mem {s : List (Nat × Nat)} (h : 0 < s.length) : top s ∈ s := by
  unfold top; rw [List.getD_eq_getElem?_getD, List.getElem?_eq_getElem (by omega)]; exact List.getElem_mem _
theorem top_at {s : List (Nat × Nat)} (h : 0 < s.length) : s[s.length - 1]? = some (top s) := by
  unfold top; rw [List.getD_eq_getElem?_getD, List.getElem?_eq_getElem (by omega)]; rfl
theorem enabled_lives {p : Pg} {c : Cf} {t : Nat} (h : enabledN p c t = true) : livesN c t = true := by
  unfold enabledN at h; rw [Bool.and_eq_true] at h; exact h.1
/-- The node where a thread is that lives. -/
theorem node_is {p : Pg} {c : Cf} (hg : Good p c) {t : Nat} (h : livesN c t = true) :
    ∃ fn, p.fns[(top (th c t).stack).1]? = some fn ∧ (top (th c t).stack).2 < fn.nodes.length ∧ fn.nodes[(top (th c t).stack).2]? = some (node p c t) := by
  have ht := lives_lt h
  have hs : 0 < (th c t).stack.length := by unfold livesN at h; simpa using h
  obtain ⟨fn, h1, h2⟩ := hg.spot _ (th_mem ht) _ (top_mem hs)
  refine ⟨fn, h1, h2, ?_⟩
  unfold node nodeAt
  have e : p.fns.getD (top (th c t).stack).1 default = fn := by rw [List.getD_eq_getElem?_getD, h1]; rfl
  rw [e, List.getD_eq_getElem?_getD, List.getElem?_eq_getElem h2]; rfl
theorem node_fit {p : Pg} (hf : Fine p) {c : Cf} (hg : Good p c) {t : Nat} (h : livesN c t = true) {fn : Fn} (hfn : p.fns[(top (th c t).stack).1]? = some fn) : Fit p (node p c t) fn.nodes.length := by
  obtain ⟨fn', h1, h2, h3⟩ := node_is hg h
  rw [hfn] at h1; cases h1
  exact fit_of hf.counts (fine_node hf hfn h3) (fine_len hf hfn)

/-- Lists all apart, below n: at most n. -/
theorem nodup_le : ∀ (n : Nat) (l : List Nat), l.Nodup → (∀ x ∈ l, x < n) → l.length ≤ n
  | 0, l, _, h => by
    cases l with
    | nil => simp
    | cons x l => exact absurd (h x (by simp)) (by omega)
  | n + 1, l, hn, h => by
    by_cases hm : n ∈ l
    · have := nodup_le n (l.erase n) (hn.erase n) fun x hx => by
        have h1 := (hn.mem_erase_iff).1 hx
        have := h x h1.2
        have := h1.1
        omega
      rw [List.length_erase_of_mem hm] at this
      omega
    · have := nodup_le n l hn fun x hx => by
        have := h x hx
        have : x ≠ n := fun e => hm (e ▸ hx)
        omega
      omega
theorem chain_reach {p : Pg} (hf : Fine p) (hl : p.fns.length = p.len) {s : List Nat} (hc : Linked p s) :
    ∀ (d i a b : Nat), s[i]? = some a → s[i + d + 1]? = some b → Q.Reach (Q.calls p) p.fns.length a b
  | 0, i, a, b, ha, hb => .one (hc i a b ha hb)
  | d + 1, i, a, b, ha, hb => by
    have hlt : i + d + 1 + 1 < s.length := by
      have := (List.getElem?_eq_some_iff.1 hb).1; omega
    have hm := List.getElem?_eq_getElem (show i + 1 < s.length by omega)
    have h1 := hc i a _ ha hm
    refine .more h1 (fine_in hf hl h1) (chain_reach hf hl hc d (i + 1) _ b hm ?_)
    rw [show i + 1 + d + 1 = i + (d + 1) + 1 by omega]; exact hb
/-- No stack is higher than there are functions. -/
theorem high {p : Pg} (hf : Fine p) (hl : p.fns.length = p.len) {c : Cf} (hg : Good p c) {x : Th} (hx : x ∈ c.ths) : x.stack.length ≤ p.fns.length := by
  have := nodup_le p.fns.length (x.stack.map (·.1)) ?_ ?_
  · simpa using this
  · rw [List.nodup_iff_pairwise_ne, List.pairwise_iff_getElem]
    intro i j hi hj hij e
    have hr := chain_reach hf hl (hg.chain x hx) (j - i - 1) i _ _ (List.getElem?_eq_getElem hi) (by rw [show i + (j - i - 1) + 1 = j by omega]; exact List.getElem?_eq_getElem hj)
    rw [e] at hr
    obtain ⟨f, hfm, hfe⟩ := List.mem_map.1 (List.getElem_mem hj)
    obtain ⟨fn, h1, _⟩ := hg.spot x hx f hfm
    rw [← hfe] at hr
    exact fine_acyclic hf hl _ (List.getElem?_eq_some_iff.1 h1).1 hr
  · intro y hy
    obtain ⟨f, hfm, rfl⟩ := List.mem_map.1 hy
    obtain ⟨fn, h1, _⟩ := hg.spot x hx f hfm
    exact (List.getElem?_eq_some_iff.1 h1).1

theorem good_start {p : Pg} (hf : Fine p) : Good p start := by
  have h1 := hf.counts.f.1
  refine ⟨by simp [start], by simp [start], by simp [start], fun o ho => ?_, fun x hx => ?_, fun x hx s hs => ?_, fun x hx f hfm => ?_, fun x hx => ?_⟩
  · have := List.eq_of_mem_replicate ho; omega
  · have e := List.mem_singleton.1 hx; subst e; rfl
  · have e := List.mem_singleton.1 hx; subst e
    have := List.eq_of_mem_replicate hs; omega
  · have e := List.mem_singleton.1 hx; subst e
    have e := List.mem_singleton.1 hfm; subst e
    have h2 := List.getElem?_eq_getElem h1
    exact ⟨_, h2, fine_len hf h2⟩
  · have e := List.mem_singleton.1 hx; subst e
    intro i a b _ hb
    simp at hb
theorem goOn_len (s : List (Nat × Nat)) (n : Nat) : (goOn s n).length = s.length := by unfold goOn; rw [List.length_set]
theorem goOn_fst (s : List (Nat × Nat)) (n : Nat) : (goOn s n).map (·.1) = s.map (·.1) := by
  apply List.ext_getElem?
  intro i
  unfold goOn
  rw [List.getElem?_map, List.getElem?_map, List.getElem?_set]
  by_cases e : s.length - 1 = i
  · subst e
    rw [if_pos rfl]
    by_cases h : s.length - 1 < s.length
    · rw [if_pos h, List.getElem?_eq_getElem h]
      simp [top, List.getD_eq_getElem?_getD, List.getElem?_eq_getElem h]
    · rw [if_neg h, List.getElem?_eq_none (by omega)]
  · rw [if_neg e]
theorem goOn_mem {s : List (Nat × Nat)} {n : Nat} {f : Nat × Nat} (h : f ∈ goOn s n) : f ∈ s ∨ f = ((top s).1, n) := List.mem_or_eq_of_mem_set h
/-- One thread is another one, behind which the config still is good. -/
theorem good_set {p : Pg} {c : Cf} (hg : Good p c) (t : Nat) (s : List (Nat × Nat)) (sl ow : List Nat) (h8 : sl.length = 8) (hs8 : ∀ x ∈ sl, x ≤ 8) (hsp : ∀ f ∈ s, ∃ fn, p.fns[f.1]? = some fn ∧ f.2 < fn.nodes.length)
    (hch : Linked p (s.map (·.1))) (h16 : ow.length = 16) (how : ∀ o ∈ ow, o ≤ c.ths.length) : Good p ⟨c.ths.set t ⟨s, sl⟩, ow⟩ := by
  have key : ∀ x ∈ c.ths.set t ⟨s, sl⟩, x ∈ c.ths ∨ x = ⟨s, sl⟩ := fun x hx => List.mem_or_eq_of_mem_set hx
  refine ⟨by simpa using hg.one, by simpa using hg.most, h16, by simpa using how, fun x hx => ?_, fun x hx => ?_, fun x hx => ?_, fun x hx => ?_⟩
  · rcases key x hx with h | rfl
    · exact hg.eight x h
    · exact h8
  · rcases key x hx with h | rfl
    · exact hg.slot x h
    · exact hs8
  · rcases key x hx with h | rfl
    · exact hg.spot x h
    · exact hsp
  · rcases key x hx with h | rfl
    · exact hg.chain x h
    · exact hch
theorem mem_set_le {l : List Nat} {k v b : Nat} (h : ∀ x ∈ l, x ≤ b) (hv : v ≤ b) : ∀ x ∈ l.set k v, x ≤ b := fun x hx => by
  rcases List.mem_or_eq_of_mem_set hx with h1 | rfl
  · exact h x h1
  · exact hv
theorem linked_snoc {p : Pg} {l : List Nat} (h : Linked p l) {y : Nat} (hy : ∀ a, l[l.length - 1]? = some a → Q.calls p a y) : Linked p (l ++ [y]) := by
  intro i a b ha hb
  have hlt := (List.getElem?_eq_some_iff.1 hb).1
  simp only [List.length_append, List.length_singleton] at hlt
  rw [List.getElem?_append_left (by omega)] at ha
  by_cases e : i + 1 < l.length
  · rw [List.getElem?_append_left e] at hb
    exact h i a b ha hb
  · have e2 : i = l.length - 1 := by omega
    rw [List.getElem?_append_right (by omega)] at hb
    have e3 : i + 1 - l.length = 0 := by omega
    rw [e3] at hb
    simp at hb
    subst hb
    exact hy a (by rw [← e2]; exact ha)
theorem good_act {p : Pg} (hf : Fine p) (hl : p.fns.length = p.len) {c : Cf} (hg : Good p c) {t : Nat} (he : enabledN p c t = true) (way : Bool) : Good p (act c t (node p c t) way) := by
  have hlv := enabled_lives he
  have ht := lives_lt hlv
  have hm := th_mem ht
  have hs0 : 0 < (th c t).stack.length := by unfold livesN at hlv; simpa using hlv
  obtain ⟨fn, hfn, hin, hnd⟩ := node_is hg hlv
  have hfit := node_fit hf hg hlv hfn
  obtain ⟨n, hn⟩ : ∃ n, node p c t = n := ⟨_, rfl⟩
  rw [hn] at hfit hnd
  have e8 := hg.eight _ hm
  have s8 := hg.slot _ hm
  have spot : ∀ m : Nat, m < fn.nodes.length → ∀ f ∈ goOn (th c t).stack m, ∃ fn, p.fns[f.1]? = some fn ∧ f.2 < fn.nodes.length := fun m hm2 f hfm => by
    rcases goOn_mem hfm with h | rfl
    · exact hg.spot _ hm f h
    · exact ⟨fn, hfn, hm2⟩
  have chain : ∀ m : Nat, Linked p ((goOn (th c t).stack m).map (·.1)) := fun m => by rw [goOn_fst]; exact hg.chain _ hm
  have hk := hfit.kind
  have h0 := hfit.next; have h1 := hfit.nextLt; have ha := hfit.arg
  unfold act
  rw [hn]
  by_cases k9 : n.kind = 9
  · rw [if_pos k9]
    refine good_set hg t _ _ _ e8 s8 (fun f hfm => hg.spot _ hm f (List.mem_of_mem_take hfm)) ?_ hg.owns hg.own
    intro i a b hA hB
    rw [List.map_take] at hA hB
    have hlt := (List.getElem?_eq_some_iff.1 hB).1
    rw [List.length_take] at hlt
    rw [List.getElem?_take, if_pos (by omega)] at hA hB
    exact hg.chain _ hm i a b hA hB
  rw [if_neg k9]
  have hnx : n.next.toNat < fn.nodes.length := by have := h1 k9; omega
  by_cases k3 : n.kind = 3
  · rw [if_pos k3]
    exact good_set hg t _ _ _ e8 s8 (spot _ hnx) (chain _) (by rw [List.length_set]; exact hg.owns) (mem_set_le hg.own (by omega))
  rw [if_neg k3]
  by_cases k4 : n.kind = 4
  · rw [if_pos k4]
    refine good_set hg t _ _ _ e8 s8 (spot _ hnx) (chain _) ?_ ?_
    · split
      · rw [List.length_set]; exact hg.owns
      · exact hg.owns
    · split
      · exact mem_set_le hg.own (by omega)
      · exact hg.own
  rw [if_neg k4]
  by_cases k5 : n.kind = 5
  · rw [if_pos k5]
    have h8 : c.ths.length < 8 := by
      unfold enabledN at he
      rw [hn, if_neg k3, if_neg (by omega), if_pos k5] at he
      rw [Bool.and_eq_true, decide_eq_true_eq] at he
      exact he.2
    have hG := good_set hg t (goOn (th c t).stack n.next.toNat) ((th c t).slots.set n.alt.toNat (c.ths.length + 1)) c.owners (by rw [List.length_set]; exact e8) (mem_set_le s8 (by omega)) (spot _ hnx) (chain _) hg.owns hg.own
    have hsp := hfit.spawn k5
    have h2 : n.arg.toNat < p.fns.length := by omega
    have h3 := List.getElem?_eq_getElem h2
    refine ⟨by simp, by simp; omega, hg.owns, fun o ho => ?_, fun x hx => ?_, fun x hx => ?_, fun x hx => ?_, fun x hx => ?_⟩
    · have := hg.own o ho
      simp; omega
    all_goals rcases List.mem_append.1 hx with h | h
    · exact hG.eight x h
    · have e := List.mem_singleton.1 h; subst e; rfl
    · exact hG.slot x h
    · have e := List.mem_singleton.1 h; subst e
      intro s hs
      have := List.eq_of_mem_replicate hs; omega
    · exact hG.spot x h
    · have e := List.mem_singleton.1 h; subst e
      intro f hfm
      have e := List.mem_singleton.1 hfm; subst e
      exact ⟨_, h3, fine_len hf h3⟩
    · exact hG.chain x h
    · have e := List.mem_singleton.1 h; subst e
      intro i a b _ hb
      simp at hb
  rw [if_neg k5]
  by_cases k7 : n.kind = 7
  · rw [if_pos k7]
    have hcl : Q.calls p (top (th c t).stack).1 n.arg.toNat := ⟨fn, hfn, n, List.mem_of_getElem? hnd, k7, by omega⟩
    have h2 := fine_in hf hl hcl
    have h3 := List.getElem?_eq_getElem h2
    refine good_set hg t _ _ _ e8 s8 (fun f hfm => ?_) ?_ hg.owns hg.own
    · rcases List.mem_append.1 hfm with h | h
      · exact spot _ hnx f h
      · have e := List.mem_singleton.1 h; subst e
        exact ⟨_, h3, fine_len hf h3⟩
    · rw [List.map_append]
      refine linked_snoc (chain _) fun a ha2 => ?_
      rw [goOn_fst, List.length_map, List.getElem?_map, top_at hs0] at ha2
      cases ha2
      exact hcl
  rw [if_neg k7]
  by_cases k8 : n.kind = 8 ∧ way = true
  · rw [if_pos k8]
    have := hfit.branch k8.1
    have := hfit.alt
    exact good_set hg t _ _ _ e8 s8 (spot _ (by omega)) (chain _) hg.owns hg.own
  · rw [if_neg k8]
    exact good_set hg t _ _ _ e8 s8 (spot _ hnx) (chain _) hg.owns hg.own
theorem good_step {p : Pg} (hf : Fine p) (hl : p.fns.length = p.len) {c : Cf} (hg : Good p c) (t : Int) (way : Bool) : Good p (step p c t way) := by
  unfold step
  split
  · rename_i h
    unfold enabled at h
    rw [Bool.and_eq_true] at h
    exact good_act hf hl hg h.2 way
  · exact hg
end Go.Proofs.Ytkblgafackmckaa.M

/- Steps of the interpreter: what they leave as it is, on plain data. Nothing here speaks of the program. -/
namespace Go.Proofs.Ytkblgafackmckaa.M

theorem act_th {c : Cf} {t : Nat} {n : Nd} {way : Bool} {u : Nat} (hu : u < c.ths.length) (hne : u ≠ t) : (act c t n way).ths[u]? = c.ths[u]? := by
  have h1 : ∀ x : Th, (c.ths.set t x)[u]? = c.ths[u]? := fun x => List.getElem?_set_ne (fun e => hne e.symm)
  unfold act
  repeat' split
  all_goals first
    | exact h1 _
    | (rw [List.getElem?_append_left (by rw [List.length_set]; exact hu)]; exact h1 _)
theorem act_len {c : Cf} {t : Nat} {n : Nd} {way : Bool} : (act c t n way).ths.length = if n.kind = 5 then c.ths.length + 1 else c.ths.length := by
  unfold act
  by_cases k9 : n.kind = 9
  · rw [if_pos k9, if_neg (show ¬ n.kind = 5 by omega)]; simp
  rw [if_neg k9]
  by_cases k3 : n.kind = 3
  · rw [if_pos k3, if_neg (show ¬ n.kind = 5 by omega)]; simp
  rw [if_neg k3]
  by_cases k4 : n.kind = 4
  · rw [if_pos k4, if_neg (show ¬ n.kind = 5 by omega)]; simp
  rw [if_neg k4]
  by_cases k5 : n.kind = 5
  · rw [if_pos k5, if_pos k5]; simp
  rw [if_neg k5, if_neg k5]
  split
  · simp
  · split <;> simp
theorem step_len (p : Pg) (c : Cf) (t : Int) (way : Bool) : c.ths.length ≤ (step p c t way).ths.length := by
  unfold step
  split
  · rw [act_len]; split <;> omega
  · exact Nat.le_refl _
theorem enabled_split {p : Pg} {c : Cf} {t : Int} (h : enabled p c t = true) : 0 ≤ t ∧ enabledN p c t.toNat = true := by
  unfold enabled at h
  rw [Bool.and_eq_true, decide_eq_true_eq] at h
  exact h
theorem step_th {p : Pg} {c : Cf} {t : Int} {way : Bool} {u : Nat} (hu : u < c.ths.length) (hne : (u : Int) ≠ t) : (step p c t way).ths[u]? = c.ths[u]? := by
  unfold step
  split
  · rename_i h
    have := (enabled_split h).1
    exact act_th hu (by omega)
  · rfl
theorem step_same {p : Pg} {c : Cf} {t : Int} {way : Bool} (h : enabled p c t = false) : step p c t way = c := by
  unfold step; rw [h]; rfl
theorem lives_nat (c : Cf) (u : Nat) : lives c (u : Int) = livesN c u := by simp [lives]
/-- Who ended stays so. -/
theorem step_ended {p : Pg} {c : Cf} {t : Int} {way : Bool} {u : Nat} (hu : u < c.ths.length) (h : lives c u = false) : lives (step p c t way) u = false := by
  by_cases hne : (u : Int) = t
  · subst hne
    rw [step_same]
    · exact h
    · cases he : enabled p c (u : Int) with
      | false => rfl
      | true =>
        have h2 := enabled_lives (enabled_split he).2
        rw [Int.toNat_natCast] at h2
        rw [lives_nat, h2] at h
        cases h
  · rw [lives_nat] at h ⊢
    unfold livesN th at h ⊢
    rw [List.getD_eq_getElem?_getD, step_th hu hne, ← List.getD_eq_getElem?_getD]; exact h
theorem act_owner {p : Pg} {c : Cf} {t : Nat} {way : Bool} (he : enabledN p c t = true) (k v : Nat) (hv : v ≠ 0) :
    ((act c t (node p c t) way).owners.getD k 0 = v ↔ c.owners.getD k 0 = v) ∨ (v = t + 1 ∧ (((node p c t).kind = 3 ∧ c.owners.getD k 0 ≠ v) ∨ ((node p c t).kind = 4 ∧ c.owners.getD k 0 = v))) := by
  obtain ⟨n, hn⟩ : ∃ n, node p c t = n := ⟨_, rfl⟩
  have key : ∀ (a v2 : Nat), (c.owners.set a v2).getD k 0 = if a = k ∧ k < c.owners.length then v2 else c.owners.getD k 0 := fun a v2 => by
    rw [List.getD_eq_getElem?_getD, List.getElem?_set, List.getD_eq_getElem?_getD]
    by_cases e : a = k
    · subst e
      by_cases hl : a < c.owners.length
      · rw [if_pos rfl, if_pos hl, if_pos ⟨rfl, hl⟩]; rfl
      · rw [if_pos rfl, if_neg hl, if_neg (fun h => hl h.2), List.getElem?_eq_none (by omega)]
    · rw [if_neg e, if_neg (fun h => e h.1)]
  rw [hn]
  unfold act
  by_cases k9 : n.kind = 9
  · rw [if_pos k9]; exact .inl Iff.rfl
  rw [if_neg k9]
  by_cases k3 : n.kind = 3
  · rw [if_pos k3]
    show ((c.owners.set n.arg.toNat (t + 1)).getD k 0 = v ↔ _) ∨ _
    rw [key]
    have h0 : c.owners.getD n.arg.toNat 0 = 0 := by
      unfold enabledN at he
      rw [hn, if_pos k3] at he
      rw [Bool.and_eq_true, decide_eq_true_eq] at he
      exact he.2
    by_cases e : n.arg.toNat = k ∧ k < c.owners.length
    · rw [if_pos e]
      by_cases hv2 : v = t + 1
      · right
        refine ⟨hv2, .inl ⟨k3, ?_⟩⟩
        rw [← e.1, h0]; omega
      · left
        rw [← e.1, h0]
        exact ⟨fun h => absurd h.symm hv2, fun h => absurd h.symm hv⟩
    · rw [if_neg e]; exact .inl Iff.rfl
  rw [if_neg k3]
  by_cases k4 : n.kind = 4
  · rw [if_pos k4]
    show ((if c.owners.getD n.arg.toNat 0 = t + 1 then c.owners.set n.arg.toNat 0 else c.owners).getD k 0 = v ↔ _) ∨ _
    by_cases h1 : c.owners.getD n.arg.toNat 0 = t + 1
    · rw [if_pos h1, key]
      by_cases e : n.arg.toNat = k ∧ k < c.owners.length
      · rw [if_pos e]
        by_cases hv2 : v = t + 1
        · right
          exact ⟨hv2, .inr ⟨k4, by rw [← e.1, h1, hv2]⟩⟩
        · left
          rw [← e.1, h1]
          exact ⟨fun h => absurd h.symm hv, fun h => absurd h.symm hv2⟩
      · rw [if_neg e]; exact .inl Iff.rfl
    · rw [if_neg h1]; exact .inl Iff.rfl
  rw [if_neg k4]
  left
  by_cases k5 : n.kind = 5
  · rw [if_pos k5]
  rw [if_neg k5]
  by_cases k7 : n.kind = 7
  · rw [if_pos k7]
  rw [if_neg k7]
  by_cases k8 : n.kind = 8 ∧ way = true
  · rw [if_pos k8]
  · rw [if_neg k8]
theorem held_congr {o o2 : List Nat} {t : Nat} (h : ∀ k, o.getD k 0 = t + 1 ↔ o2.getD k 0 = t + 1) : ∀ n, heldTo o t n = heldTo o2 t n
  | 0 => rfl
  | n + 1 => by
    unfold heldTo
    rw [held_congr h n]
    by_cases e : o.getD n 0 = t + 1
    · rw [if_pos e, if_pos ((h n).1 e)]
    · rw [if_neg e, if_neg (fun x => e ((h n).2 x))]
/-- What another thread has. -/
theorem step_held {p : Pg} {c : Cf} {t : Int} {way : Bool} {u : Nat} (hne : (u : Int) ≠ t) : heldTo (step p c t way).owners u 16 = heldTo c.owners u 16 := by
  unfold step
  split
  · rename_i h
    obtain ⟨h0, h1⟩ := enabled_split h
    refine held_congr (fun k => ?_) 16
    rcases act_owner (way := way) h1 k (u + 1) (by omega) with h2 | ⟨h2, _⟩
    · exact h2
    · omega
  · rfl
/-- What a thread has grows by its own Lock alone. -/
theorem step_more {p : Pg} {c : Cf} {t : Int} {way : Bool} {u k : Nat} (h : (heldTo (step p c t way).owners u 16).testBit k = true) (hn : (heldTo c.owners u 16).testBit k = false) :
    (u : Int) = t ∧ livesN c u = true ∧ (node p c u).kind = 3 := by
  rw [held_bit, decide_eq_true_eq] at h
  rw [held_bit, decide_eq_false_iff_not] at hn
  unfold step at h
  split at h
  · rename_i he
    obtain ⟨h0, h1⟩ := enabled_split he
    rcases act_owner (way := way) h1 k (u + 1) (by omega) with h2 | ⟨h2, h3⟩
    · exact absurd ⟨h.1, h2.1 h.2⟩ hn
    · have e : t.toNat = u := by omega
      rw [e] at h1 h3
      rcases h3 with ⟨h3, _⟩ | ⟨_, h3⟩
      · exact ⟨by omega, enabled_lives h1, h3⟩
      · exact absurd ⟨h.1, h3⟩ hn
  · exact absurd h hn
/-- .. and shrinks by its own Unlock alone. -/
theorem step_less {p : Pg} {c : Cf} {t : Int} {way : Bool} {u k : Nat} (h : (heldTo c.owners u 16).testBit k = true) (hn : (heldTo (step p c t way).owners u 16).testBit k = false) :
    (u : Int) = t ∧ livesN c u = true ∧ (node p c u).kind = 4 := by
  rw [held_bit, decide_eq_true_eq] at h
  rw [held_bit, decide_eq_false_iff_not] at hn
  unfold step at hn
  split at hn
  · rename_i he
    obtain ⟨h0, h1⟩ := enabled_split he
    rcases act_owner (way := way) h1 k (u + 1) (by omega) with h2 | ⟨h2, h3⟩
    · exact absurd ⟨h.1, h2.2 h.2⟩ hn
    · have e : t.toNat = u := by omega
      rw [e] at h1 h3
      rcases h3 with ⟨_, h3⟩ | ⟨h3, _⟩
      · exact absurd h.2 h3
      · exact ⟨by omega, enabled_lives h1, h3⟩
  · exact absurd h hn
/-- There is a thread more by a Spawn alone. -/
theorem step_spawn {p : Pg} {c : Cf} {t : Int} {way : Bool} (h : (step p c t way).ths.length ≠ c.ths.length) : 0 ≤ t ∧ livesN c t.toNat = true ∧ (node p c t.toNat).kind = 5 ∧ (step p c t way).ths.length = c.ths.length + 1 := by
  unfold step at h ⊢
  split at h
  · rename_i he
    obtain ⟨h0, h1⟩ := enabled_split he
    rw [if_pos he, act_len]
    rw [act_len] at h
    by_cases k5 : (node p c t.toNat).kind = 5
    · rw [if_pos k5]; exact ⟨h0, enabled_lives h1, k5, rfl⟩
    · rw [if_neg k5] at h; exact absurd rfl h
  · exact absurd rfl h
/-- Which way a pick goes counts at a Branch alone. -/
theorem step_way {p : Pg} {c : Cf} {t : Nat} (h : ¬ (livesN c t = true ∧ (node p c t).kind = 8 ∧ (node p c t).next ≠ (node p c t).alt)) : step p c t false = step p c t true := by
  unfold step
  split
  · rename_i he
    obtain ⟨h0, h1⟩ := enabled_split he
    rw [Int.toNat_natCast] at h1 ⊢
    have hl := enabled_lives h1
    obtain ⟨n, hn⟩ : ∃ n, node p c t = n := ⟨_, rfl⟩
    rw [hn] at h ⊢
    unfold act
    by_cases k8 : n.kind = 8
    · have e : n.next = n.alt := by
        by_cases e : n.next = n.alt
        · exact e
        · exact absurd ⟨hl, k8, e⟩ h
      have n9 : ¬ n.kind = 9 := by omega
      have n3 : ¬ n.kind = 3 := by omega
      have n4 : ¬ n.kind = 4 := by omega
      have n5 : ¬ n.kind = 5 := by omega
      have n7 : ¬ n.kind = 7 := by omega
      have key : ∀ b : Bool, (if n.kind = 8 ∧ b = true then (⟨c.ths.set t ⟨goOn (th c t).stack n.alt.toNat, (th c t).slots⟩, c.owners⟩ : Cf) else ⟨c.ths.set t ⟨goOn (th c t).stack n.next.toNat, (th c t).slots⟩, c.owners⟩) = ⟨c.ths.set t ⟨goOn (th c t).stack n.alt.toNat, (th c t).slots⟩, c.owners⟩ := fun b => by
        rw [e]; exact ite_self _
      rw [if_neg n9, if_neg n3, if_neg n4, if_neg n5, if_neg n7, if_neg n9, if_neg n3, if_neg n4, if_neg n5, if_neg n7, key false, key true]
    · have key : ∀ b : Bool, (if n.kind = 8 ∧ b = true then (⟨c.ths.set t ⟨goOn (th c t).stack n.alt.toNat, (th c t).slots⟩, c.owners⟩ : Cf) else ⟨c.ths.set t ⟨goOn (th c t).stack n.next.toNat, (th c t).slots⟩, c.owners⟩) = ⟨c.ths.set t ⟨goOn (th c t).stack n.next.toNat, (th c t).slots⟩, c.owners⟩ := fun b => if_neg fun h => k8 h.1
      rw [key false, key true]
  · rfl
/-- The masks of the first threads are apart from the next one's. -/
theorem held_apart {o : List Nat} {t m : Nat} (h : ∀ k, m.testBit k = true → o.getD k 0 ≤ t) : m &&& heldTo o t 16 = 0 := by
  apply Nat.eq_of_testBit_eq
  intro k
  rw [Nat.testBit_and, held_bit, Nat.zero_testBit]
  cases hm : m.testBit k with
  | false => rfl
  | true =>
    have := h k hm
    rw [decide_eq_false (by omega)]; rfl
theorem held_join {o : List Nat} {t m : Nat} (h : ∀ k, m.testBit k = true → o.getD k 0 ≤ t) : ∀ k, (m ||| heldTo o t 16).testBit k = true → o.getD k 0 ≤ t + 1 := by
  intro k hk
  rw [Nat.testBit_or, Bool.or_eq_true, held_bit, decide_eq_true_eq] at hk
  rcases hk with hk | hk
  · have := h k hk; omega
  · omega
end Go.Proofs.Ytkblgafackmckaa.M

/- Slices of structs of one-cell fields that the call made, grown by append. -/
namespace Go.Proofs.Ytkblgafackmckaa
open Go.RowKit

/-- The cells of such elements, one behind the other. -/
def cellsR {α : Type} (sz : Nat) (f : α → Nat → Value) (l : List α) : List Value := l.flatMap fun x => (List.range sz).map (f x)
theorem cellsR_len {α : Type} (sz : Nat) (f : α → Nat → Value) : ∀ l : List α, (cellsR sz f l).length = l.length * sz
  | [] => by simp [cellsR]
  | x :: l => by
    have ih := cellsR_len sz f l
    unfold cellsR at ih ⊢
    rw [List.flatMap_cons, List.length_append, ih, List.length_map, List.length_range, List.length_cons, Nat.add_mul]; omega
theorem cellsR_app {α : Type} (sz : Nat) (f : α → Nat → Value) (l l' : List α) : cellsR sz f (l ++ l') = cellsR sz f l ++ cellsR sz f l' := by unfold cellsR; rw [List.flatMap_append]
theorem cellsR_at {α : Type} (sz : Nat) (f : α → Nat → Value) : ∀ (l : List α) (k j : Nat) (x : α), l[k]? = some x → j < sz → (cellsR sz f l)[k * sz + j]? = some (f x j)
  | [], k, j, x, h, _ => by simp at h
  | y :: l, 0, j, x, h, hj => by
    have e : y = x := by simpa using h
    subst e
    unfold cellsR
    rw [List.flatMap_cons, Nat.zero_mul, Nat.zero_add, List.getElem?_append_left (by simpa using hj), List.getElem?_map, List.getElem?_range hj]; rfl
  | y :: l, k + 1, j, x, h, hj => by
    have ih := cellsR_at sz f l k j x (by simpa using h) hj
    unfold cellsR at ih ⊢
    rw [List.flatMap_cons, List.getElem?_append_right (by simp [Nat.add_mul]; omega), List.length_map, List.length_range, show (k + 1) * sz + j - sz = k * sz + j by rw [Nat.add_mul]; omega]
    exact ih
/-- The value v is a slice that was made since block B, its elements (of type e, sz cells each) are l. -/
def OwnR {α : Type} (sz : Nat) (f : α → Nat → Value) (w : World) (B : Nat) (e : TypeId) (v : Value) (l : List α) : Prop := w.ownsRow B e sz v l.length (cellsR sz f l)

section
variable {α : Type} {sz : Nat} {f : α → Nat → Value} {w w' : World} {B : Nat} {e : TypeId} {v : Value} {l : List α}
theorem OwnR.nil (sz : Nat) (f : α → Nat → Value) (w : World) (B : Nat) (e : TypeId) : OwnR sz f w B e (.slice none 0 0) [] := World.ownsRow_nil w B e sz
theorem OwnR.block (h : OwnR sz f w B e v l) : ∀ k, v.ownBlock = some k → B ≤ k ∧ k < w.heap.size := World.ownsRow.lt h
theorem OwnR.far {row : Option Nat} (h : OwnR sz f w B e v l) (hg : w.grownBy w' row) (hne : v.ownBlock = none ∨ v.ownBlock ≠ row) : OwnR sz f w' B e v l := World.ownsRow.kept h hg hne
theorem OwnR.below {C : Nat} (h : OwnR sz f w B e v l) (hb : Below C w w') (hC : w.heap.size ≤ C) : OwnR sz f w' B e v l := by
  refine h.far (row := none) ⟨hb.os, hb.tape, hb.output, hb.size, fun i hi _ => hb.block i (by omega)⟩ ?_
  cases hv : v.ownBlock with
  | none => exact .inl rfl
  | some k => exact .inr (by simp)
theorem OwnR.form (h : OwnR sz f w B e v l) : ∃ A cap, v = .slice A l.length cap ∧ l.length ≤ cap ∧ cap ≤ maxLen ∧ Recs sz f w w.heap.size A l.length l := by
  rcases h.2 with ⟨hv, h0⟩ | ⟨g, cap, cur, hv, hB, hg, hn, hm, hs, ht⟩
  · refine ⟨none, 0, by rw [h0]; exact hv, by omega, by simp [maxLen], ⟨rfl, fun hn => by omega⟩⟩
  · refine ⟨_, cap, hv, hn, hm, ⟨rfl, fun _ => ⟨_, rfl, ?_, fun k x hx j hj => ?_⟩⟩⟩
    · exact (World.ownsRow.lt h g (by rw [hv]; rfl)).2
    · exact World.ownsRow.cells h (g := g) (by rw [hv]; rfl) _ _ (cellsR_at sz f l k j x hx hj)
end

/-- append of one element, which was laid in a block of its own just before. -/
theorem wpList_append_rec {P : Program} {ops : Array Oper} {rest : List Oper} {o : Oper} {a : Act} {Q : Exit → Act → World → Prop} (hgd : o.guard = none) (s x : Operand) (t : TypeId)
    (ho : o.op = .call { callee := .builtin .append, args := #[s, x], argTypes := #[t, t] })
    (B : Nat) (e : TypeId) (sz : Nat) (z : Value) (bytes : Nat) (ht : P.underlying t = some (.slice e)) (hi : (P.info? e).map (fun i => (i.zero, i.size, i.bytes)) = some (some z, sz, bytes)) (hzs : z.cells.size = sz) (hsz : 0 < sz)
    {α : Type} (f : α → Nat → Value) (hone : ∀ x j, (f x j).oneCell' = true)
    (w : World) (v : Value) (l : List α) (u : α) (hs : a.eval s = v) (hown : OwnR sz f w B e v l) (ad : Addr) (c : Nat) (hx : a.eval x = .slice (some ad) 1 c) (had : ad = ⟨w.heap.size, 0, none⟩)
    (cs : Array Value) (hcs : cs = ((List.range sz).map (f u)).toArray) (h63 : l.length + 1 ≤ maxLen) (hbytes : (l.length + 1) * bytes ≤ 140737488355328) (hB : B ≤ w.heap.size)
    (h : ∀ v' w', OwnR sz f w' B e v' (l ++ [u]) → Grew w w' v v' → wpList P ops Q rest (a.put o.dst v') w') : wpList P ops Q (o :: rest) a (w.alloc (.cells cs e)) := by
  subst had
  subst hcs
  obtain ⟨i, hi0, hzz⟩ := Option.map_eq_some_iff.1 hi
  simp only [Prod.mk.injEq] at hzz
  obtain ⟨hz, hsize, hby⟩ := hzz
  have hnb := Blk.new w e ((List.range sz).map (f u))
  refine wpList_append_lies _ hgd s x t ho B e i z sz bytes ht hi0 hz hsize hby hzs hsz v l.length (cellsR sz f l) hs (World.ownsRow.alloc hown _) _ 1 c ((List.range sz).map (f u)) hx (by simp)
    (fun j y hy => by
      have hadd : (⟨w.heap.size, 0, none⟩ : Addr).add j = ⟨w.heap.size, j, none⟩ := by unfold Addr.add; split <;> simp_all
      rw [hadd, hnb.cell j]; exact hy)
    (fun y hy => by
      obtain ⟨j, _, rfl⟩ := List.mem_map.1 hy
      exact hone u j)
    (by omega) h63 hbytes (by simp; omega) _ rfl ?_
  intro g cap w' h2 h3 h4 h5
  refine h _ w' ?_ ⟨grown_alloc _ _ _ h3, ?_⟩
  rotate_left
  · rcases h4 with h4 | h4
    · exact .inl h4.symm
    · refine .inr fun k hk => ?_
      have : g = k := by simpa [Value.ownBlock] using hk
      subst this
      rw [h4]; simp
  unfold OwnR
  rw [List.length_append, List.length_singleton, cellsR_app]
  have e1 : cellsR sz f [u] = (List.range sz).map (f u) := by simp [cellsR]
  rw [e1]
  exact h2
end Go.Proofs.Ytkblgafackmckaa
