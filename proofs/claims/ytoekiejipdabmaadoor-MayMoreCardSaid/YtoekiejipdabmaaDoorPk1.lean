/- SetMath, Base, Mem, Kit, Cell, Open, Recs, ProgIn, MayBeh, ProgMath, Arr, ProgRef1. -/
import Derived.WalkKit
import Derived.Handy
import Derived.ProofKit
import Derived.Lib.Hide
import Derived.Below
import Derived.Deep.AppendLies
import Derived.Laws.AppendOwnNone
import Derived.Laws.BytesArg
import Derived.Deep.Draws
import Derived.Deep.DeepMust
import Derived.Laws.Rows
import Derived.Deep.MidRow
import Derived.Maps.AppendAt
import Derived.Test.YtoekiejipdabmaaDoorRows
import Derived.BigQuiet
import Derived.Deep.QuietTactic
import Derived.Deep.Grids
import Derived.Deep.Matrix
import Derived.Deep.Fields
namespace Go.Proofs.YtoekiejipdabmaaDoor.S
def has (m : Nat) (id : Int) : Bool:=decide (0 ≤ id ∧ id ≤ 31) && m.testBit id.toNat
theorem has_out (m : Nat) (id : Int) (h : id < 0 ∨ 31 < id) : has m id = false:=by
  unfold has;rw [decide_eq_false (by omega)];rfl
theorem has_in (m : Nat) (i : Nat) (h : i ≤ 31) : has m (i : Int) = m.testBit i:=by
  unfold has;rw [decide_eq_true (by omega)];simp
theorem bit_div (m i : Nat) : m.testBit i = decide (m / 2 ^ i % 2 = 1):=Nat.testBit_eq_decide_div_mod_eq
def ids (m : Nat) (n : Nat) : List Nat:=(List.range n).filter fun i => m.testBit i
theorem LO (m n : Nat) : ids m (n + 1) = ids m n ++ (if m.testBit n then [n] else []):=by
  unfold ids
  rw [List.range_succ,List.filter_append]
  by_cases h : m.testBit n <;> simp [h]
theorem ids_len (m n : Nat) : (ids m n).length ≤ n:=by
  have:=List.length_filter_le (fun i => m.testBit i) (List.range n)
  simpa [ids] using this
theorem ids_mem (m n x : Nat) : x ∈ ids m n ↔ x < n ∧ m.testBit x = true:=by simp [ids]
def mask (l : List Nat) : Nat:=(l.map (2 ^ ·)).sum
theorem mask_snoc (l : List Nat) (x : Nat) : mask (l ++ [x]) = mask l + 2 ^ x:=by simp [mask]
def within (a b n : Nat) : Bool:=(List.range n).all fun i => !a.testBit i || b.testBit i
theorem within_succ (a b n : Nat) : within a b (n + 1) = (within a b n && (!a.testBit n || b.testBit n)):=by
  simp [within,List.range_succ,List.all_append]
def bad (l : List Int) (size : Int) (i : Nat) : Nat :=
  let x:=l.getD i 0
  if x < 0 ∨ size ≤ x ∨ 31 < x then 1 else if 0 < i ∧ x ≤ l.getD (i - 1) 0 then 5 else 0
def first (l : List Int) (size : Int) : Nat → Nat
  | 0 => 0
  | n + 1 => if first l size n = 0 then bad l size n else first l size n
theorem first_zero (l : List Int) (size : Int) : ∀ n,first l size n = 0 → ∀ i,i < n → bad l size i = 0
  | 0,_,i,hi => by omega
  | n + 1,h,i,hi => by
    simp only [first] at h
    by_cases h0 : first l size n = 0
    · rw [if_pos h0] at h
      by_cases e : i = n
      · subst e;exact h
      · exact first_zero l size n h0 i (by omega)
    · rw [if_neg h0] at h;exact absurd h h0
def count (m : Nat) : Nat:=(ids m 32).length
def least (m : Nat) : Int:=match ids m 32 with | [] => -1 | x :: _ => (x : Int)
theorem bit_high (m i : Nat) (hm : m < 4294967296) (hi : 32 ≤ i) : m.testBit i = false :=
  Nat.testBit_lt_two_pow (Nat.lt_of_lt_of_le hm ((Nat.pow_le_pow_right (by decide) hi : 2 ^ 32 ≤ 2 ^ i)))
theorem within_iff (a b : Nat) : within a b 32 = true ↔ ∀ i,i < 32 → a.testBit i = true → b.testBit i = true:=by
  simp only [within,List.all_eq_true,List.mem_range]
  constructor
  · intro h i hi ha
    have:=h i hi
    rw [ha] at this;simpa using this
  · intro h i hi
    cases ha : a.testBit i
    · rfl
    · simp [h i hi ha]
theorem within_trans (a b c : Nat) (h1 : within a b 32 = true) (h2 : within b c 32 = true) : within a c 32 = true:=by
  rw [within_iff] at *
  exact fun i hi h => h2 i hi (h1 i hi h)
theorem eq_of_bits (a b : Nat) (ha : a < 4294967296) (hb : b < 4294967296) (h : ∀ i,i < 32 → a.testBit i = b.testBit i) : a = b:=by
  apply Nat.eq_of_testBit_eq
  intro i
  rcases Nat.lt_or_ge i 32 with hi | hi
  · exact h i hi
  · rw [bit_high a i ha hi,bit_high b i hb hi]
def all (n : Int) : Nat:=if n ≤ 0 then 0 else if 32 ≤ n then 4294967295 else 2 ^ n.toNat - 1
def one (id : Int) : Nat:=if 0 ≤ id ∧ id ≤ 31 then 2 ^ id.toNat else 0
theorem one_nat (i : Nat) (h : i ≤ 31) : one (i : Int) = 2 ^ i:=by unfold one;rw [if_pos (by omega),Int.toNat_natCast]
theorem one_out (id : Int) (h : id < 0 ∨ 31 < id) : one id = 0:=by unfold one;rw [if_neg (by omega)]
theorem one_lt (id : Int) : one id < 4294967296:=by
  unfold one
  split
  · have : 2 ^ id.toNat ≤ 2 ^ 31:=Nat.pow_le_pow_right (by decide) (by omega)
    omega
  · decide
end Go.Proofs.YtoekiejipdabmaaDoor.S
namespace Go.Proofs.YtoekiejipdabmaaDoor
open Go.RowKit
section
variable {P : Program} {ops : Array Oper} {Q : Exit → Act → World → Prop} {l : List Oper} {a : Act} {w : World}
abbrev Sl (n : Nat) {x1 : Op} {x2 : TypeId} {x3 : String} {x4 : Array Edge} {x5 : Option (Nat × Bool)} : Prop:=wpList P ops Q (⟨some n,x1,x2,x3,x4,x5⟩ :: l) a w
abbrev Sn {x1 : Op} {x2 : TypeId} {x3 : String} {x4 : Array Edge} {x5 : Option (Nat × Bool)} : Prop:=wpList P ops Q (⟨none,x1,x2,x3,x4,x5⟩ :: l) a w
end
theorem l7 {k : IntKind} {a b : Int} (h : a = b) : Ending.returned (.int k a) = .returned (.int k b):=by rw [h]
theorem add_block (a : Addr) (k : Nat) : (a.add k).block = a.block:=by unfold Addr.add;split <;> rfl
theorem add_add (a : Addr) (i j : Nat) : (a.add i).add j = a.add (i + j):=by
  unfold Addr.add
  by_cases hi : i = 0 <;> by_cases hj : j = 0 <;> simp [hi,hj,Nat.add_assoc]
structure Kept (p : Prop) : Prop where
  out : p
theorem kp {p : Prop} (h : p) : Kept p:=⟨h⟩
structure Row {α : Type} (f : α → Value) (w : World) (B : Nat) (A : Option Addr) (n : Nat) (l : List α) : Prop where
  len : l.length = n
  cells : 0 < n → ∃ ad,A = some ad ∧ ad.block < B ∧ ∀ k,k < n → w.cell? (ad.add k) = l[k]?.map f
variable {α : Type} {f : α → Value} {w w' : World} {B B' : Nat} {A : Option Addr} {n : Nat} {l : List α}
theorem Row.get (h : Row f w B A n l) {k : Nat} (hk : k < n) : ∃ ad x,A = some ad ∧ ad.block < B ∧ l[k]? = some x ∧ w.cell? (ad.add k) = some (f x):=by
  obtain ⟨ad,e,hb,hc⟩:=h.cells (by omega)
  have hl : k < l.length:=by rw [h.len];exact hk
  refine ⟨ad,l[k],e,hb,List.getElem?_eq_getElem hl,?_⟩
  rw [hc k hk,List.getElem?_eq_getElem hl];rfl
theorem Row.keep (h : Row f w B A n l) (hk : ∀ p : Addr,p.block < B → w'.cell? p = w.cell? p) : Row f w' B A n l :=
  ⟨h.len,fun hn => by
    obtain ⟨ad,e,hb,hc⟩:=h.cells hn
    exact ⟨ad,e,hb,fun k hlt => (hk _ (by rw [add_block];exact hb)).trans (hc k hlt)⟩⟩
theorem Row.below (h : Row f w B A n l) (hb : Below B w w') : Row f w' B A n l:=h.keep fun _ hp => hb.cell hp
theorem Row.more (h : Row f w B A n l) (hB : B ≤ B') : Row f w B' A n l :=
  ⟨h.len,fun hn => by obtain ⟨ad,e,hb,hc⟩:=h.cells hn;exact ⟨ad,e,by omega,hc⟩⟩
theorem Row.take (h : Row f w B A n l) {k : Nat} (hk : k ≤ n) : Row f w B A k (l.take k) :=
  ⟨by rw [List.length_take,h.len];omega,fun h0 => by
    obtain ⟨ad,e,hb,hc⟩:=h.cells (by omega)
    exact ⟨ad,e,hb,fun j hj => by rw [hc j (by omega),List.getElem?_take,if_pos hj]⟩⟩
theorem Row.none_ {A : Option Addr} (h : l = []) (hn : n = 0) : Row f w B A n l:=⟨by rw [h,hn];rfl,fun h0 => by omega⟩
theorem Row.drew (h : Row f w B A n l) : Row f w.drew B A n l:=⟨h.len,h.cells⟩
def byteV (b : Nat) : Value:=.int .u8 (b : Int)
theorem byteV_def (b : Nat) : byteV b = .int .u8 (b : Int):=rfl
def Own (w : World) (B : Nat) (e : TypeId) (v : Value) (xs : List Value) : Prop:=w.ownsRow B e 1 v xs.length xs
theorem Own.nil (w : World) (B : Nat) (e : TypeId) : Own w B e (.slice none 0 0) []:=World.ownsRow_nil w B e 1
theorem Own.new (w : World) (B : Nat) (e : TypeId) (xs : List Value) (hB : B ≤ w.heap.size) (hm : xs.length ≤ maxLen) :
    Own (w.alloc (.cells xs.toArray e)) B e (.slice (some ⟨w.heap.size,0,none⟩) xs.length xs.length) xs:=by
  have h:=World.ownsRow_lit (size:=1) (e:=e) w xs.toArray xs.length hB hm (by simp)
  unfold Own;simpa using h
theorem Own.form {e : TypeId} {v : Value} {xs : List Value} (h : Own w B e v xs) : ∃ A cap,v = .slice A xs.length cap ∧ xs.length ≤ cap ∧ cap ≤ maxLen ∧ Row (fun u => u) w w.heap.size A xs.length xs ∧ (∀ ad,A = some ad → B ≤ ad.block):=by
  rcases h.2 with ⟨rfl,h0⟩ | ⟨g,cap,cur,rfl,hB,hg,hn,hm,hs,ht⟩
  · refine ⟨none,0,by rw [h0],by omega,by simp [maxLen],⟨rfl,fun h => by omega⟩,fun _ h => by cases h⟩
  · refine ⟨_,cap,rfl,hn,hm,⟨rfl,fun h0 => ⟨_,rfl,?_,fun k hk => ?_⟩⟩,fun ad h => by cases h;exact hB⟩
    · rcases Nat.lt_or_ge g w.heap.size with hlt | hge
      · exact hlt
      · rw [Array.getElem?_eq_none hge] at hg;cases hg
    · have hadd : (⟨g,0,none⟩ : Addr).add k = ⟨g,k,none⟩:=by unfold Addr.add;split <;> simp_all
      rw [hadd,cell_of_row w g k cur e (0,0) hg,← Array.getElem?_toList]
      have : xs[k]? = cur.toList[k]?:=by
        conv => lhs;rw [← ht]
        rw [List.getElem?_take,if_pos (by omega)]
      rw [this];cases cur.toList[k]? <;> rfl
theorem Own.bytes {e : TypeId} {v : Value} {bs : List Nat} (h : Own w B e v (bs.map byteV)) : ∃ A cap,v = .slice A bs.length cap ∧ bs.length ≤ cap ∧ cap ≤ maxLen ∧ Row byteV w w.heap.size A bs.length bs:=by
  obtain ⟨A,cap,hv,hc,hm,hr,_⟩:=h.form
  rw [List.length_map] at hv hc hr
  refine ⟨A,cap,hv,hc,hm,⟨rfl,fun h0 => ?_⟩⟩
  obtain ⟨ad,e1,hb,hcell⟩:=hr.cells h0
  exact ⟨ad,e1,hb,fun k hk => by rw [hcell k hk,List.getElem?_map];cases bs[k]? <;> rfl⟩
theorem Own.bytesN {e : TypeId} {v : Value} {bs : List Nat} {n : Nat} (h : Own w B e v (bs.map byteV)) (hn : bs.length = n) : ∃ A cap,v = .slice A n cap ∧ n ≤ cap ∧ cap ≤ maxLen ∧ Row byteV w w.heap.size A n bs:=by
  subst hn;exact h.bytes
theorem Own.readsN {α : Type} {f : α → Value} {e : TypeId} {v : Value} {l : List α} {n : Nat} (h : Own w B e v (l.map f)) (hn : l.length = n) : ∃ A cap,v = .slice A n cap ∧ n ≤ cap ∧ cap ≤ maxLen ∧ Row f w w.heap.size A n l:=by
  subst hn
  obtain ⟨A,cap,hv,hc,hm,hr,_⟩:=h.form
  rw [List.length_map] at hv hc hr
  refine ⟨A,cap,hv,hc,hm,⟨rfl,fun h0 => ?_⟩⟩
  obtain ⟨ad,e1,hb,hcell⟩:=hr.cells h0
  exact ⟨ad,e1,hb,fun k hk => by rw [hcell k hk,List.getElem?_map];cases l[k]? <;> rfl⟩
theorem Own.block {e : TypeId} {v : Value} {xs : List Value} (h : Own w B e v xs) : ∀ k,v.ownBlock = some k → B ≤ k ∧ k < w.heap.size:=World.ownsRow.lt h
theorem Own.far {e : TypeId} {v : Value} {xs : List Value} {row : Option Nat} (h : Own w B e v xs) (hg : w.grownBy w' row) (hne : v.ownBlock = none ∨ v.ownBlock ≠ row) : Own w' B e v xs:=World.ownsRow.kept h hg hne
theorem Own.below {e : TypeId} {v : Value} {xs : List Value} {C : Nat} (h : Own w B e v xs) (hb : Below C w w') (hC : w.heap.size ≤ C) : Own w' B e v xs :=
  World.ownsRow.kept (row:=none) h ⟨hb.os,hb.tape,hb.output,hb.size,fun k hk _ => hb.block k (by omega)⟩ (by
    rcases h.2 with ⟨rfl,h0⟩ | ⟨g,cap,cur,rfl,_⟩
    · exact .inl rfl
    · exact .inr (by simp [Value.ownBlock]))
theorem Own.less {e : TypeId} {v : Value} {xs : List Value} (h : Own w B e v xs) (hB : B' ≤ B) : Own w B' e v xs:=by
  rcases h.2 with ⟨h1,h0⟩ | ⟨g,cap,cur,rfl,hB1,hg,hn,hm,hs,ht⟩
  · exact ⟨h.1,.inl ⟨h1,h0⟩⟩
  · exact ⟨h.1,.inr ⟨g,cap,cur,rfl,by omega,hg,hn,hm,hs,ht⟩⟩
theorem vM (w : World) (o : Obj) (row : Option Nat) {w' : World} (h : (w.alloc o).grownBy w' row) : w.grownBy w' row :=
  ⟨h.os,h.tape,h.output,by have:=h.size;simp at this;omega,fun k hk hne => (h.block k (by simp;omega) hne).trans (Below.heap_alloc w o k hk)⟩
def Grew (w w' : World) (v v' : Value) : Prop:=w.grownBy w' v.ownBlock ∧ (v'.ownBlock = v.ownBlock ∨ ∀ g,v'.ownBlock = some g → w.heap.size ≤ g)
theorem Grew.refl (w : World) (v : Value) : Grew w w v v:=⟨World.grownBy.refl w _,.inl rfl⟩
theorem Grew.size {v v' : Value} (h : Grew w w' v v') : w.heap.size ≤ w'.heap.size:=h.1.size
theorem Grew.trans {w1 w2 w3 : World} {v1 v2 v3 : Value} (h : Grew w1 w2 v1 v2) (k : Grew w2 w3 v2 v3) : Grew w1 w3 v1 v3:=by
  refine ⟨⟨k.1.os.trans h.1.os,k.1.tape.trans h.1.tape,k.1.output.trans h.1.output,Nat.le_trans h.1.size k.1.size,fun i hi hne => ?_⟩,?_⟩
  · refine (k.1.block i (Nat.lt_of_lt_of_le hi h.1.size) ?_).trans (h.1.block i hi hne)
    rcases h.2 with h2 | h2
    · rw [h2];exact hne
    · intro e
      have:=h2 i e.symm
      omega
  · rcases k.2 with k2 | k2
    · rcases h.2 with h2 | h2
      · exact .inl (k2.trans h2)
      · exact .inr fun g hg => h2 g (by rw [← k2];exact hg)
    · exact .inr fun g hg => Nat.le_trans h.1.size (k2 g hg)
theorem Grew.below {v v' : Value} {w0 : World} {e : TypeId} {xs : List Value} (h : Grew w w' v v') (hb : Below B w0 w) (ho : Own w B e v xs) (hB : B ≤ w.heap.size) : Below B w0 w' :=
  hb.grown h.1 hB fun k hk => (ho.block k hk).1
theorem Grew.drew {v v' : Value} (h : Grew w w' v v') : Grew w w'.drew v v':=⟨⟨h.1.os,h.1.tape,h.1.output,h.1.size,h.1.block⟩,h.2⟩
theorem jO {P : Program} {ops : Array Oper} {rest : List Oper} {o : Oper} {a : Act} {Q : Exit → Act → World → Prop} (hgd : o.guard = none) (s x : Operand) (t : TypeId)
    (ho : o.op = .call { callee:=.builtin .append,args:=#[s,x],argTypes:=#[t,t] })
    (B : Nat) (e : TypeId) (z : Value) (bytes : Nat) (ht : P.underlying t = some (.slice e)) (hi : (P.info? e).map (fun i => (i.zero,i.size,i.bytes)) = some (some z,1,bytes)) (hzs : z.cells.size = 1)
    (w : World) (v : Value) (xs : List Value) (u : Value) (hs : a.eval s = v) (hown : Own w B e v xs) (ad : Addr) (c : Nat) (hx : a.eval x = .slice (some ad) 1 c) (had : ad = ⟨w.heap.size,0,none⟩)
    (h1 : u.oneCell' = true) (h63 : xs.length + 1 ≤ maxLen) (hbytes : (xs.length + 1) * bytes ≤ 140737488355328) (hB : B ≤ w.heap.size)
    (h : ∀ v' w',Own w' B e v' (xs ++ [u]) → Grew w w' v v' → wpList P ops Q rest (a.put o.dst v') w') : wpList P ops Q (o :: rest) a (w.alloc (.cells #[u] e)):=by
  subst had
  obtain ⟨i,hi0,hz,hsize,hby⟩:=info_parts hi
  refine wpList_append_lies _ hgd s x t ho B e i z 1 bytes ht hi0 hz hsize hby hzs (by omega) v xs.length xs hs (World.ownsRow.alloc hown _) _ 1 c [u] hx (by simp) (cell_one_new w u e) (by simpa using h1)
    (by omega) h63 hbytes (by simp;omega) _ rfl ?_
  intro g cap w' h2 h3 h4 h5
  refine h _ w' ?_ ⟨vM _ _ _ h3,?_⟩
  rotate_left
  · rcases h4 with h4 | h4
    · exact .inl h4.symm
    · refine .inr fun k hk => ?_
      have : g = k:=by simpa [Value.ownBlock] using hk
      subst this
      rw [h4];simp
  unfold Own
  rw [List.length_append,List.length_singleton]
  exact h2
theorem uZ {P : Program} (t ty : TypeId) (B : Nat) (e : TypeId) (z : Value) (bytes : Nat) (ht : P.underlying t = some (.slice e)) (hi : (P.info? e).map (fun i => (i.zero,i.size,i.bytes)) = some (some z,1,bytes)) (hzs : z.cells.size = 1)
    (w : World) (v : Value) (xs : List Value) (hown : Own w B e v xs) (A : Option Addr) (m c C : Nat) (news : List Value) (hr : Row (fun u => u) w C A m news)
    (h1 : ∀ u ∈ news,u.oneCell' = true) (h63 : xs.length + m ≤ maxLen) (hbytes : (xs.length + m) * bytes ≤ 140737488355328) (hB : B ≤ w.heap.size) :
    ∃ v' w',(Builtin.append_ #[t,t] ty #[v,.slice A m c]).run P w = .ok v' w' ∧ Own w' B e v' (xs ++ news) ∧ Grew w w' v v':=by
  obtain ⟨i,hi0,hz,hsize,hby⟩:=info_parts hi
  rcases A with _ | ad
  · have hm : m = 0:=by
      rcases Nat.eq_zero_or_pos m with h0 | h0
      · exact h0
      · obtain ⟨_,h,_⟩:=hr.cells h0
        cases h
    subst hm
    have hn : news = []:=List.eq_nil_of_length_eq_zero hr.len
    subst hn
    refine ⟨v,w,?_,by simpa using hown,Grew.refl _ _⟩
    rcases hown.2 with ⟨rfl,h0⟩ | ⟨g,cap,cur,rfl,_,_,hnc,_⟩
    · simp [Builtin.append_,run_underlying ht,sizeOf,typeInfo,hi0,Builtin.lenOf,Builtin.firstCells]
    · simp [Builtin.append_,run_underlying ht,sizeOf,typeInfo,hi0,Builtin.lenOf,Builtin.firstCells,hnc,storeCells]
  · have hcells : ∀ j u,news[j]? = some u → w.cell? (ad.add j) = some u:=by
      intro j u hu
      have hj : j < m:=by
        have:=(List.getElem?_eq_some_iff.1 hu).1
        rw [hr.len] at this;exact this
      obtain ⟨ad',x,e1,_,hx,hc⟩:=hr.get hj
      cases e1
      rw [hx] at hu;cases hu;exact hc
    obtain ⟨v',w',hrun,h2,h3,h4,h5⟩:=run_append_own_at (P:=P) w B t ty e i z 1 bytes ht hi0 hz hsize hby hzs (by omega) v xs.length xs hown ad m c news (by rw [hr.len];omega) hcells h1 h63 hbytes hB
    refine ⟨v',w',hrun,?_,h3,?_⟩
    · unfold Own;rw [List.length_append,hr.len];exact h2
    · rcases h5 with h5 | h5
      · exact .inl h5
      · refine .inr fun g hg => ?_
        rw [h5] at hg;cases hg;exact Nat.le_refl _
theorem ones {α : Type} (f : α → Value) (hf : ∀ x,(f x).oneCell' = true) (l : List α) : ∀ u ∈ l.map f,u.oneCell' = true:=by
  intro u hu
  obtain ⟨x,_,rfl⟩:=List.mem_map.1 hu
  exact hf x
def IsRow (k : IntKind) (w : World) (a : Option Addr) (len cap : Nat) (zs : List Int) : Prop :=
  (a = none ∧ len = 0 ∧ cap = 0 ∧ zs = []) ∨
  ∃ x,a = some x ∧ len ≤ cap ∧ cap ≤ maxLen ∧ zs.length = cap ∧ (∀ i,i < zs.length → w.cell? (x.add i) = some (.int k (zs.getD i 0))) ∧ ∀ n ∈ zs,(Lit.int k n).wf = true
theorem qB {w : World} {a : Addr} {v : Value} (h : w.cell? a = some v) : a.block < w.heap.size:=by
  rcases Nat.lt_or_ge a.block w.heap.size with hlt | hge
  · exact hlt
  · unfold World.cell? at h
    rw [Array.getElem?_eq_none hge] at h
    cases h
theorem IsRow.nats {k : IntKind} {w : World} {a : Option Addr} {len cap : Nat} {zs : List Int} (h : IsRow k w a len cap zs) (M : Nat) (hM : ∀ n : Int,(Lit.int k n).wf = true → 0 ≤ n ∧ n < (M : Int)) :
    ∃ l : List Nat,Row (fun b : Nat => .int k (b : Int)) w w.heap.size a len l ∧ (∀ x ∈ l,x < M) ∧ len ≤ maxLen ∧ len ≤ cap ∧ cap ≤ maxLen:=by
  rcases h with ⟨rfl,rfl,rfl,rfl⟩ | ⟨x,rfl,hl,hm,hz,hc,hw⟩
  · exact ⟨[],⟨rfl,fun h => by omega⟩,by simp,by simp [maxLen],by omega,by simp [maxLen]⟩
  · refine ⟨(zs.take len).map Int.toNat,⟨by simp;omega,fun h0 => ⟨x,rfl,?_,fun k hk => ?_⟩⟩,?_,by omega,hl,hm⟩
    · have:=qB (hc 0 (by omega))
      rwa [add_block] at this
    · rw [hc k (by omega)]
      have hk2 : k < zs.length:=by omega
      rw [List.getElem?_map,List.getElem?_take,if_pos hk,List.getElem?_eq_getElem hk2,List.getD_eq_getElem?_getD,List.getElem?_eq_getElem hk2]
      have:=(hM _ (hw _ (List.getElem_mem hk2))).1
      simp [Int.toNat_of_nonneg this]
    · intro y hy
      obtain ⟨n,hn,rfl⟩:=List.mem_map.1 hy
      have:=hM n (hw n (List.mem_of_mem_take hn))
      omega
theorem u8_range (n : Int) (h : (Lit.int .u8 n).wf = true) : 0 ≤ n ∧ n < 256:=by
  simp [Lit.wf,IntKind.min,IntKind.max,IntKind.bits,IntKind.signed] at h;omega
theorem J1 (n : Int) (h : (Lit.int .u32 n).wf = true) : 0 ≤ n ∧ n < 4294967296:=by
  simp [Lit.wf,IntKind.min,IntKind.max,IntKind.bits,IntKind.signed] at h;omega
theorem IsRow.bytes {w : World} {a : Option Addr} {len cap : Nat} {zs : List Int} (h : IsRow .u8 w a len cap zs) :
    ∃ l : List Nat,Row byteV w w.heap.size a len l ∧ (∀ x ∈ l,x < 256) ∧ len ≤ maxLen ∧ len ≤ cap ∧ cap ≤ maxLen:=h.nats 256 u8_range
theorem IsRow.words {w : World} {a : Option Addr} {len cap : Nat} {zs : List Int} (h : IsRow .u32 w a len cap zs) :
    ∃ l : List Nat,Row (fun b : Nat => .int .u32 (b : Int)) w w.heap.size a len l ∧ (∀ x ∈ l,x < 4294967296) ∧ len ≤ maxLen ∧ len ≤ cap ∧ cap ≤ maxLen:=h.nats 4294967296 J1
theorem Row.made {α : Type} (f : α → Value) (w : World) (l : List α) (cs : Array Value) (hcs : cs.toList = l.map f) (e : TypeId) : Row f (w.alloc (.cells cs e)) (w.alloc (.cells cs e)).heap.size (some ⟨w.heap.size,0,none⟩) l.length l :=
  ⟨rfl,fun _ => ⟨_,rfl,by simp,fun k _ => by
    have hadd : (⟨w.heap.size,0,none⟩ : Addr).add k = ⟨w.heap.size,k,none⟩:=by unfold Addr.add;split <;> simp_all
    rw [hadd,cell_of_row _ w.heap.size k cs e (0,0) (heap_alloc_new w _),← Array.getElem?_toList,hcs,List.getElem?_map]⟩⟩
def Blk (w : World) (g : Nat) (t : TypeId) (cs : List Value) : Prop:=w.heap[g]? = some (.cells cs.toArray t (0,0))
theorem Blk.lt {w : World} {g : Nat} {t : TypeId} {cs : List Value} (h : Blk w g t cs) : g < w.heap.size:=by
  rcases Nat.lt_or_ge g w.heap.size with hlt | hge
  · exact hlt
  · unfold Blk at h
    rw [Array.getElem?_eq_none hge] at h;cases h
theorem Blk.cell {w : World} {g : Nat} {t : TypeId} {cs : List Value} (h : Blk w g t cs) (k : Nat) : w.cell? ⟨g,k,none⟩ = cs[k]?:=by
  rw [cell_of_row w g k cs.toArray t (0,0) h];simp
theorem Blk.frozen {w : World} {g : Nat} {t : TypeId} {cs : List Value} (h : Blk w g t cs) (k : Nat) : w.frozen? ⟨g,k,none⟩ = false:=frozen_of_row w g k cs.toArray t h
theorem Blk.set {w : World} {g : Nat} {t : TypeId} {cs : List Value} (h : Blk w g t cs) (k : Nat) (v : Value) : Blk (w.setCell ⟨g,k,none⟩ v) g t (cs.set k v):=by
  have:=heap_setCell_same w g k cs.toArray t v h
  unfold Blk;simpa using this
theorem Blk.other {w : World} {g : Nat} {t : TypeId} {cs : List Value} (h : Blk w g t cs) (a : Addr) (v : Value) (hne : g ≠ a.block) : Blk (w.setCell a v) g t cs:=by
  unfold Blk;rw [heap_setCell_other w a g v hne];exact h
theorem Blk.alloc {w : World} {g : Nat} {t : TypeId} {cs : List Value} (h : Blk w g t cs) (o : Obj) : Blk (w.alloc o) g t cs:=by
  unfold Blk;rw [Below.heap_alloc w o g h.lt];exact h
theorem Blk.new (w : World) (t : TypeId) (cs : List Value) : Blk (w.alloc (.cells cs.toArray t)) w.heap.size t cs:=heap_alloc_new w _
theorem Blk.newA (w : World) (t : TypeId) (c : Array Value) (cs : List Value) (hc : c = cs.toArray) : Blk (w.alloc (.cells c t)) w.heap.size t cs:=by subst hc;exact heap_alloc_new w _
theorem Blk.newAt {w : World} {t : TypeId} {c : Array Value} {cs : List Value} {g : Nat} (hc : c = cs.toArray) (hg : g = w.heap.size) : Blk (w.alloc (.cells c t)) g t cs:=by subst hc;subst hg;exact heap_alloc_new w _
theorem Blk.below {w w' : World} {g B : Nat} {t : TypeId} {cs : List Value} (h : Blk w g t cs) (hb : Below B w w') (hg : g < B) : Blk w' g t cs:=by
  unfold Blk;rw [hb.block g hg];exact h
theorem Blk.grown {w w' : World} {g : Nat} {t : TypeId} {cs : List Value} {row : Option Nat} (h : Blk w g t cs) (hg : w.grownBy w' row) (hne : some g ≠ row) : Blk w' g t cs:=by
  unfold Blk;rw [hg.block g h.lt hne];exact h
theorem Blk.drewN {w : World} {g : Nat} {t : TypeId} {cs : List Value} (h : Blk w g t cs) (n : Nat) : Blk (w.drewN n) g t cs:=h
theorem Blk.range {w : World} {g : Nat} {t : TypeId} {cs : List Value} (h : Blk w g t cs) (o n : Nat) : w.rangeAt g o ((cs.drop o).take n):=by
  intro j v hv
  rw [h.cell (o + j)]
  rw [List.getElem?_take] at hv
  split at hv
  · rw [List.getElem?_drop] at hv;exact hv
  · cases hv
theorem Blk.row {α : Type} {f : α → Value} {w : World} {g B : Nat} {t : TypeId} {l : List α} (h : Blk w g t (l.map f)) {n : Nat} (hn : l.length = n) (hB : w.heap.size ≤ B) : Row f w B (some ⟨g,0,none⟩) n l :=
  ⟨hn,fun _ => ⟨_,rfl,Nat.lt_of_lt_of_le h.lt hB,fun k _ => by
    have hadd : (⟨g,0,none⟩ : Addr).add k = ⟨g,k,none⟩:=by unfold Addr.add;split <;> simp_all
    rw [hadd,h.cell k,List.getElem?_map]⟩⟩
theorem jS (w : World) (row : Option Nat) : w.grownBy w row:=World.grownBy.refl w row
theorem jX {w w' : World} {g k : Nat} {v : Value} (h : w.grownBy w' (some g)) : w.grownBy (w'.setCell ⟨g,k,none⟩ v) (some g) :=
  ⟨h.os,h.tape,h.output,by simpa using h.size,fun i hi hne => (heap_setCell_other w' _ i v (by intro e;exact hne (by rw [e]))).trans (h.block i hi hne)⟩
theorem y5 {w w1 w2 : World} {row : Option Nat} (h : w.grownBy w1 row) (hb : Below w1.heap.size w1 w2) : w.grownBy w2 row :=
  ⟨hb.os.trans h.os,hb.tape.trans h.tape,hb.output.trans h.output,Nat.le_trans h.size hb.size,fun i hi hne => (hb.block i (Nat.lt_of_lt_of_le hi h.size)).trans (h.block i hi hne)⟩
theorem q8 {w w' : World} (hb : Below w.heap.size w w') (row : Option Nat) : w.grownBy w' row:=⟨hb.os,hb.tape,hb.output,hb.size,fun i hi _ => hb.block i hi⟩
theorem lH {w w1 w2 : World} {row : Option Nat} (h : w.grownBy w1 row) (k : w1.grownBy w2 row) : w.grownBy w2 row:=World.grownBy.trans h k
theorem Row.grown {α : Type} {f : α → Value} {w w' : World} {B n : Nat} {ad : Option Addr} {l : List α} {row : Option Nat} (h : Row f w B ad n l) (hg : w.grownBy w' row) (hB : B ≤ w.heap.size) (hne : ∀ a,0 < n → ad = some a → some a.block ≠ row) : Row f w' B ad n l :=
  ⟨h.len,fun h0 => by
    obtain ⟨a,e,hb,hc⟩:=h.cells h0
    refine ⟨a,e,hb,fun k hk => ?_⟩
    rw [← hc k hk]
    refine World.cell?_of_block (w:=w) ?_
    rw [add_block]
    exact hg.block a.block (by omega) (hne a h0 e)⟩
theorem j6 {P : Program} {ops : Array Oper} {rest : List Oper} {o : Oper} {a : Act} {w : World} {Q : Exit → Act → World → Prop} (hgd : o.guard = none) (ty : TypeId) (x : Operand) (ho : o.op = .load ty x)
    (g : Nat) (hx : a.eval x = .pointer (some ⟨g,0,none⟩)) (t : TypeId) (cs : List Value) (d : TypeDesc) (hg : Blk w g t cs)
    (hu : P.underlying ty = some d) (hd : (match d with | .struct _ | .array _ _ => true | _ => false) = true) (hi : (P.info? ty).map (·.size) = some cs.length)
    (h : wpList P ops Q rest (a.put o.dst (.agg cs.toArray)) w) : wpList P ops Q (o :: rest) a w :=
  wpList_load_row hgd ty x ho g hx t cs.toArray (0,0) d hg hu hd (by simpa using hi) h
theorem j5 {P : Program} {ops : Array Oper} {rest : List Oper} {o : Oper} {a : Act} {w : World} {Q : Exit → Act → World → Prop} (hgd : o.guard = none) (ty : TypeId) (x y : Operand) (ho : o.op = .store ty x y)
    (g : Nat) (cs : List Value) (hx : a.eval x = .pointer (some ⟨g,0,none⟩)) (hy : a.eval y = .agg cs.toArray)
    (t : TypeId) (old : List Value) (hg : Blk w g t old) (hi : (P.info? ty).map (·.size) = some cs.length) (hold : old.length = cs.length) (h1 : ∀ u ∈ cs,u.oneCell' = true)
    (h : ∀ w',Blk w' g t cs → w.grownBy w' (some g) → w'.heap.size = w.heap.size → wpList P ops Q rest (a.put o.dst undef) w') : wpList P ops Q (o :: rest) a w :=
  wpList_store_row hgd ty x y ho g cs.toArray hx hy t old.toArray hg (by simpa using hi) (by simpa using hold) (all_oneCell_toArray h1)
    (h _ (setRow_heap w g _ _ t _ hg) ⟨rfl,rfl,rfl,by simp,fun i _ hne => setRow_other w g i _ (by intro e;exact hne (by rw [e]))⟩ (by simp))
theorem jZ {P : Program} {fn : Func} {p : Tmp} {ty : TypeId} (h : fn.results = #[.cell p ty]) (tmps : Array Value) (w : World) (g : Nat) (t : TypeId) (cs : List Value) (d : TypeDesc)
    (hp : tmps.getD p undef = .pointer (some ⟨g,0,none⟩)) (hg : Blk w g t cs)
    (hu : P.underlying ty = some d) (hd : (match d with | .struct _ | .array _ _ => true | _ => false) = true) (hi : (P.info? ty).map (·.size) = some cs.length) :
    (results fn tmps).run P w = .ok (.agg cs.toArray) w:=results_cell_row h tmps w g t cs.toArray (0,0) d hp hg hu hd (by simpa using hi)
def wordV (n : Nat) : Value:=.int .u32 (n : Int)
theorem lW (n : Nat) : wordV n = .int .u32 (n : Int):=rfl
def natV (n : Nat) : Value:=.int .i64 (n : Int)
theorem lG (n : Nat) : natV n = .int .i64 (n : Int):=rfl
def intV (n : Int) : Value:=.int .i64 n
theorem y4 (n : Int) : intV n = .int .i64 n:=rfl
theorem jG {a b : Bool} (h : a = b) : Ending.returned (.bool a) = Ending.returned (.bool b):=by rw [h]
theorem below_drewN {B : Nat} {a w : World} (h : Below B a w) (n : Nat) : Below B a (w.drewN n):=⟨h.os,h.tape,h.output,h.size,h.block⟩
theorem vS {x : Int} (h : (Lit.int .u32 x).wf = true) : ∃ n : Nat,x = (n : Int) ∧ n < 4294967296:=by
  have:=J1 x h
  exact ⟨x.toNat,by omega,by omega⟩
theorem q7 {x : Int} (h : (Lit.int .i64 x).wf = true) : -9223372036854775808 ≤ x ∧ x ≤ 9223372036854775807:=by
  simp [Lit.wf,IntKind.min,IntKind.max,IntKind.bits,IntKind.signed] at h;omega
theorem lV : (Tryd.prog.info? 53).map (fun i => (i.zero,i.size,i.bytes)) = some (some (.int .u32 0),1,4):=by kernel_rfl
theorem q6 : (Tryd.prog.info? 3).map (fun i => (i.zero,i.size,i.bytes)) = some (some (.int .i64 0),1,8):=by kernel_rfl
theorem xX : (Tryd.prog.info? 3).map (·.size) = some 1:=by kernel_rfl
theorem q5 (g k : Nat) : (⟨g,0,none⟩ : Addr).add k = ⟨g,k,none⟩:=by unfold Addr.add;split <;> simp_all
theorem Row.drewN {α : Type} {f : α → Value} {w : World} {B : Nat} {A : Option Addr} {n : Nat} {l : List α} (h : Row f w B A n l) (k : Nat) : Row f (w.drewN k) B A n l:=h.keep fun _ _ => rfl
theorem Row.turned {α : Type} {f : α → Value} {w w' : World} {B n g : Nat} {A : Option Addr} {l : List α} (h : Row f w B A n l) (hg : w.grownBy w' (some g)) (hB : B ≤ w.heap.size) (hBg : B ≤ g) : Row f w' B A n l :=
  h.keep fun p hp => World.cell?_of_block (w:=w) (hg.block p.block (by omega) (by intro e;cases e;omega))
theorem lO {P : Program} {f : FuncId} {args : Array Value} {w : World} {n : Nat} {v : Value}
    (h : Calls P f args (w.drewN n) fun e w' => e = .returned v ∧ w.drewN n = w') : Calls P f args (w.drewN n) fun e w'' => e = .returned v ∧ ∃ m,w'' = w.drewN m :=
  h.mono fun _ _ ⟨he,hm⟩ => ⟨he,n,hm.symm⟩
end Go.Proofs.YtoekiejipdabmaaDoor
namespace Go.Proofs.YtoekiejipdabmaaDoor
open Go.ChangeShapes Go.WideShapes Go.RowKit Go.Deep
theorem Y2 {α : Type} {f : α → Value} {w : World} {a : Addr} {n : Nat} (g : Nat → α) (hc : ∀ i,i < n → w.cell? (a.add i) = some (f (g i))) : Row f w w.heap.size (some a) n ((List.range n).map g) :=
  ⟨by simp,fun h0 => ⟨a,rfl,by have:=qB (hc 0 h0);rwa [add_block] at this,fun k hk => by rw [hc k hk,List.getElem?_map,List.getElem?_range hk];rfl⟩⟩
section
variable {H : Type} {enc : TypeId × Value → H} {P : Program} {w : World} {base : Nat} {held : Bool}
end
end Go.Proofs.YtoekiejipdabmaaDoor
namespace Go.Proofs.YtoekiejipdabmaaDoor
open Go.ChangeShapes Go.WideShapes Go.RowKit Go.Deep
structure Recs {α : Type} (sz : Nat) (f : α → Nat → Value) (w : World) (B : Nat) (A : Option Addr) (n : Nat) (l : List α) : Prop where
  len : l.length = n
  cells : 0 < n → ∃ ad,A = some ad ∧ ad.block < B ∧ ∀ k x,l[k]? = some x → ∀ j,j < sz → w.cell? (ad.add (k * sz + j)) = some (f x j)
section
variable {α : Type} {sz : Nat} {f : α → Nat → Value} {w w' : World} {B B' : Nat} {A : Option Addr} {n : Nat} {l : List α}
theorem Recs.get (h : Recs sz f w B A n l) {k : Nat} (hk : k < n) : ∃ ad x,A = some ad ∧ ad.block < B ∧ l[k]? = some x ∧ ∀ j,j < sz → w.cell? (ad.add (k * sz + j)) = some (f x j):=by
  obtain ⟨ad,e,hb,hc⟩:=h.cells (by omega)
  have hl : k < l.length:=by rw [h.len];exact hk
  exact ⟨ad,l[k],e,hb,List.getElem?_eq_getElem hl,hc k _ (List.getElem?_eq_getElem hl)⟩
theorem add_field (a : Addr) (k j : Nat) (hj : j ≠ 0) : a.add (k + j) = ⟨(a.add k).block,(a.add k).off + j,none⟩:=by
  rw [← add_add]
  generalize a.add k = b
  unfold Addr.add
  rw [if_neg hj]
theorem Recs.field (h : Recs sz f w B A n l) {k : Nat} (hk : k < n) : ∃ ad x,A = some ad ∧ ad.block < B ∧ l[k]? = some x ∧ (0 < sz → w.cell? (ad.add (k * sz)) = some (f x 0)) ∧
    ∀ j,j ≠ 0 → j < sz → w.cell? ⟨(ad.add (k * sz)).block,(ad.add (k * sz)).off + j,none⟩ = some (f x j):=by
  obtain ⟨ad,x,e,hb,hx,hc⟩:=h.get hk
  exact ⟨ad,x,e,hb,hx,fun h0 => hc 0 h0,fun j hj hlt => by rw [← add_field _ _ _ hj];exact hc j hlt⟩
theorem Recs.keep (h : Recs sz f w B A n l) (hk : ∀ p : Addr,p.block < B → w'.cell? p = w.cell? p) : Recs sz f w' B A n l :=
  ⟨h.len,fun hn => by
    obtain ⟨ad,e,hb,hc⟩:=h.cells hn
    exact ⟨ad,e,hb,fun k x hx j hj => (hk _ (by rw [add_block];exact hb)).trans (hc k x hx j hj)⟩⟩
theorem Recs.below (h : Recs sz f w B A n l) (hb : Below B w w') : Recs sz f w' B A n l:=h.keep fun _ hp => hb.cell hp
theorem Recs.more (h : Recs sz f w B A n l) (hB : B ≤ B') : Recs sz f w B' A n l :=
  ⟨h.len,fun hn => by obtain ⟨ad,e,hb,hc⟩:=h.cells hn;exact ⟨ad,e,by omega,hc⟩⟩
theorem Recs.drewN (h : Recs sz f w B A n l) (k : Nat) : Recs sz f (w.drewN k) B A n l:=h.keep fun _ _ => rfl
end
section
variable {H : Type} {enc : TypeId × Value → H} {P : Program} {w : World} {base : Nat} {held : Bool}
theorem zW {t e : TypeId} {fs : Array Field} {a : Option Addr} {len cap : Nat} {d : DataW H} {ps : List MemPlace} (ht : P.underlying t = some (.slice e)) (he : P.underlying e = some (.struct fs))
    (hone : oneCellFields P fs = true) (hC : P.cellsOf e = fs.size) (h : DataW.Trod enc P w base (fun _ => true) held t (.slice a len cap) d ps) :
    len ≤ cap ∧ cap ≤ maxLen ∧ (a = none → cap = 0) ∧ (0 < len → ∃ ad,a = some ad) ∧
      ∀ ad,a = some ad → ∃ V : Nat → Nat → Value,∀ i,i < len → ∀ (j : Nat) (fl : Field),fs[j]? = some fl → w.cell? (ad.add (i * fs.size + j)) = some (V i j) ∧ ∃ (fuel : Nat) (y : DataW H × List MemPlace),DataW.trod enc P w base (fun _ => true) held fuel fl.type [V i j] = some y:=by
  obtain ⟨fuel,hf⟩:=h
  rcases open_slice ht hf with ⟨hcs,_⟩ | ⟨x,l,c,m,n,D,Pl,hcs,_,hl,hm,hmm,_,hx⟩
  · simp [Value.cells] at hcs
    obtain ⟨rfl,rfl,rfl⟩:=hcs
    exact ⟨Nat.le_refl _,by simp [maxLen],fun _ => rfl,fun h => by omega,fun _ h => by cases h⟩
  · simp [Value.cells] at hcs
    obtain ⟨rfl,rfl,rfl⟩:=hcs
    refine ⟨hl,hm,(fun h => by cases h),fun _ => ⟨_,rfl⟩,fun ad had => ?_⟩
    cases had
    simp only [if_true] at hmm
    have each : ∀ i,i < len → ∃ q : List Value,q.length = fs.size ∧ (∀ j,j < fs.size → w.cell? ((x.add (i * fs.size)).add j) = q[j]?) ∧ ∃ k,∀ (j : Nat) (fl : Field),fs[j]? = some fl → ∃ y,DataW.trod enc P w base (fun _ => true) held k fl.type [q.getD j undef] = some y:=by
      intro i hi
      obtain ⟨cs',h1,h2⟩:=hx i (by omega)
      rw [hC] at h1
      obtain ⟨_,hlen,hcell⟩:=World.cells?_some h1
      obtain ⟨xs,k,_,_,_,hxl,hfl⟩:=DataW.trod_struct he h2
      refine ⟨cs',hlen,hcell,k,fun j fl hj => ?_⟩
      have hlt : j < fs.size:=(Array.getElem?_eq_some_iff.1 hj).1
      obtain ⟨ho,hc1⟩:=hone_of hone j fl hj
      have g:=hfl j fl hj
      rw [ho,hc1,take1_drop cs' j undef (by omega),List.getElem?_eq_getElem (by omega)] at g
      exact ⟨_,g⟩
    obtain ⟨q,hq⟩:=choose_lt each
    refine ⟨fun i j => (q i).getD j undef,fun i hi j fl hj => ?_⟩
    have hlt : j < fs.size:=(Array.getElem?_eq_some_iff.1 hj).1
    obtain ⟨g1,g2,k,g3⟩:=hq i hi
    refine ⟨?_,k,g3 j fl hj⟩
    have:=g2 j hlt
    rw [add_add] at this
    show _ = some ((q i).getD j undef)
    rw [this,List.getElem?_eq_getElem (by omega),List.getD_eq_getElem?_getD,List.getElem?_eq_getElem (by omega)]
    rfl
theorem lC {t : TypeId} {k : IntKind} {v : Value} {fuel : Nat} {y : DataW H × List MemPlace} (ht : P.underlying t = some (.int k)) (h : DataW.trod enc P w base (fun _ => true) held fuel t [v] = some y) : ∃ n : Int,v = .int k n ∧ (Lit.int k n).wf = true:=by
  obtain ⟨n,hn,_,hw⟩:=DataW.trod_int ht h
  simp at hn
  exact ⟨n,hn,hw⟩
end
end Go.Proofs.YtoekiejipdabmaaDoor
namespace Go.Proofs.YtoekiejipdabmaaDoor
open Go.ChangeShapes Go.WideShapes Go.RowKit Go.Deep
structure Nd where
  kind : Int
  arg : Int
  next : Int
  alt : Int
instance : Inhabited Nd:=⟨⟨0,0,0,0⟩⟩
def ndV (x : Nd) : Nat → Value
  | 0 => .int .i64 x.kind
  | 1 => .int .i64 x.arg
  | 2 => .int .i64 x.next
  | _ => .int .i64 x.alt
def I64 (x : Int) : Prop:=-9223372036854775808 ≤ x ∧ x ≤ 9223372036854775807
structure Nd.Ok (x : Nd) : Prop where
  kind : I64 x.kind
  arg : I64 x.arg
  next : I64 x.next
  alt : I64 x.alt
def ndA (x : Nd) : Value:=.agg #[.int .i64 x.kind,.int .i64 x.arg,.int .i64 x.next,.int .i64 x.alt]
def Nodes (w : World) (B : Nat) (A : Option Addr) (n : Nat) (l : List Nd) : Prop:=Recs 4 ndV w B A n l ∧ ∀ x ∈ l,x.Ok
theorem Nodes.keep {w w' : World} {B : Nat} {A : Option Addr} {n : Nat} {l : List Nd} (h : Nodes w B A n l) (hk : ∀ p : Addr,p.block < B → w'.cell? p = w.cell? p) : Nodes w' B A n l:=⟨h.1.keep hk,h.2⟩
theorem Nodes.get {w : World} {B : Nat} {A : Option Addr} {n : Nat} {l : List Nd} (h : Nodes w B A n l) {k : Nat} (hk : k < n) :
    ∃ ad x,A = some ad ∧ ad.block < B ∧ l[k]? = some x ∧ x.Ok ∧ w.cell? (ad.add (k * 4)) = some (.int .i64 x.kind) ∧ w.cell? ⟨(ad.add (k * 4)).block,(ad.add (k * 4)).off + 1,none⟩ = some (.int .i64 x.arg) ∧
      w.cell? ⟨(ad.add (k * 4)).block,(ad.add (k * 4)).off + 2,none⟩ = some (.int .i64 x.next) ∧ w.cell? ⟨(ad.add (k * 4)).block,(ad.add (k * 4)).off + 3,none⟩ = some (.int .i64 x.alt):=by
  obtain ⟨ad,x,e,hb,hx,hc0,hc⟩:=h.1.field hk
  exact ⟨ad,x,e,hb,hx,h.2 x (List.mem_of_getElem? hx),hc0 (by omega),hc 1 (by omega) (by omega),hc 2 (by omega) (by omega),hc 3 (by omega) (by omega)⟩
structure Fn where
  A : Option Addr
  len : Nat
  cap : Nat
  nodes : List Nd
instance : Inhabited Fn:=⟨⟨none,0,0,[]⟩⟩
def fnV (f : Fn) : Value:=.slice f.A f.len f.cap
structure Fn.Ok (f : Fn) (w : World) (B : Nat) : Prop where
  nodes : Nodes w B f.A f.len f.nodes
  lc : f.len ≤ f.cap
  cm : f.cap ≤ maxLen
  nil : f.A = none → f.cap = 0
structure Pg where
  g : Int
  l : Int
  s : Int
  A : Option Addr
  len : Nat
  cap : Nat
  fns : List Fn
def pgA (p : Pg) : Value:=.agg #[.int .i64 p.g,.int .i64 p.l,.int .i64 p.s,.slice p.A p.len p.cap]
def pgC (p : Pg) : List Value:=[.int .i64 p.g,.int .i64 p.l,.int .i64 p.s,.slice p.A p.len p.cap]
structure Pg.Ok (p : Pg) (w : World) (B : Nat) : Prop where
  g : I64 p.g
  l : I64 p.l
  s : I64 p.s
  row : Row fnV w B p.A p.len p.fns
  fns : ∀ f ∈ p.fns,f.Ok w B
  lc : p.len ≤ p.cap
  cm : p.cap ≤ maxLen
  nil : p.A = none → p.cap = 0
theorem Fn.Ok.keep {f : Fn} {w w' : World} {B : Nat} (h : f.Ok w B) (hk : ∀ p : Addr,p.block < B → w'.cell? p = w.cell? p) : f.Ok w' B:=⟨h.nodes.keep hk,h.lc,h.cm,h.nil⟩
theorem Pg.Ok.keep {p : Pg} {w w' : World} {B : Nat} (h : p.Ok w B) (hk : ∀ p : Addr,p.block < B → w'.cell? p = w.cell? p) : p.Ok w' B :=
  ⟨h.g,h.l,h.s,h.row.keep hk,fun f hf => (h.fns f hf).keep hk,h.lc,h.cm,h.nil⟩
theorem Pg.Ok.below {p : Pg} {w w' : World} {B : Nat} (h : p.Ok w B) (hb : Below B w w') : p.Ok w' B:=h.keep fun _ hp => hb.cell hp
theorem Pg.Ok.drewN {p : Pg} {w : World} {B : Nat} (h : p.Ok w B) (k : Nat) : p.Ok (w.drewN k) B:=h.keep fun _ _ => rfl
theorem Pg.Ok.fn {p : Pg} {w : World} {B : Nat} (h : p.Ok w B) {k : Nat} (hk : k < p.len) :
    ∃ ad f,p.A = some ad ∧ ad.block < B ∧ p.fns[k]? = some f ∧ f.Ok w B ∧ w.cell? (ad.add k) = some (.slice f.A f.len f.cap):=by
  obtain ⟨ad,f,e,hb,hx,hc⟩:=h.row.get hk
  exact ⟨ad,f,e,hb,hx,h.fns f (List.mem_of_getElem? hx),hc⟩
section
variable {H : Type} {enc : TypeId × Value → H} {P : Program} {w : World} {base : Nat} {held : Bool}
theorem X7 {t e : TypeId} {f0 f1 f2 f3 : Field} {v : Value} {fuel : Nat} {y : DataW H × List MemPlace} (ht : P.underlying t = some (.slice e)) (he : P.underlying e = some (.struct #[f0,f1,f2,f3]))
    (hone : oneCellFields P #[f0,f1,f2,f3] = true) (hC : P.cellsOf e = 4) (h0 : P.underlying f0.type = some (.int .i64)) (h1 : P.underlying f1.type = some (.int .i64)) (h2 : P.underlying f2.type = some (.int .i64)) (h3 : P.underlying f3.type = some (.int .i64))
    (h : DataW.trod enc P w base (fun _ => true) held fuel t [v] = some y) : ∃ f : Fn,v = fnV f ∧ f.Ok w w.heap.size:=by
  have hv : ∃ a len cap,v = .slice a len cap:=by
    rcases open_slice ht h with ⟨hcs,_⟩ | ⟨x,l,c,_,_,_,_,hcs,_⟩
    · simp at hcs;exact ⟨_,_,_,hcs⟩
    · simp at hcs;exact ⟨_,_,_,hcs⟩
  obtain ⟨a,len,cap,rfl⟩:=hv
  obtain ⟨hl,hm,hnil,hsome,hall⟩:=zW (a:=a) (len:=len) (cap:=cap) (d:=y.1) (ps:=y.2) ht he hone hC ⟨fuel,h⟩
  rcases Nat.eq_zero_or_pos len with h00 | h00
  · exact ⟨⟨a,len,cap,[]⟩,rfl,⟨⟨⟨h00.symm ▸ rfl,fun h => absurd (show 0 < len from h) (by omega)⟩,by simp⟩,hl,hm,hnil⟩⟩
  · obtain ⟨ad,rfl⟩:=hsome h00
    obtain ⟨V,hV⟩:=hall ad rfl
    have each : ∀ i,i < len → ∃ x : Nd,x.Ok ∧ ∀ j,j < 4 → w.cell? (ad.add (i * 4 + j)) = some (ndV x j):=by
      intro i hi
      obtain ⟨c0,_,_,g0⟩:=hV i hi 0 f0 rfl
      obtain ⟨c1,_,_,g1⟩:=hV i hi 1 f1 rfl
      obtain ⟨c2,_,_,g2⟩:=hV i hi 2 f2 rfl
      obtain ⟨c3,_,_,g3⟩:=hV i hi 3 f3 rfl
      obtain ⟨n0,e0,w0⟩:=lC h0 g0
      obtain ⟨n1,e1,w1⟩:=lC h1 g1
      obtain ⟨n2,e2,w2⟩:=lC h2 g2
      obtain ⟨n3,e3,w3⟩:=lC h3 g3
      refine ⟨⟨n0,n1,n2,n3⟩,⟨q7 w0,q7 w1,q7 w2,q7 w3⟩,fun j hj => ?_⟩
      match j,hj with
      | 0,_ => rw [show ndV _ 0 = Value.int .i64 n0 from rfl,← e0];exact c0
      | 1,_ => rw [show ndV _ 1 = Value.int .i64 n1 from rfl,← e1];exact c1
      | 2,_ => rw [show ndV _ 2 = Value.int .i64 n2 from rfl,← e2];exact c2
      | 3,_ => rw [show ndV _ 3 = Value.int .i64 n3 from rfl,← e3];exact c3
    obtain ⟨X,hX⟩:=choose_lt each
    refine ⟨⟨some ad,len,cap,(List.range len).map X⟩,rfl,⟨⟨⟨by simp,fun _ => ⟨ad,rfl,?_,fun k x hx j hj => ?_⟩⟩,fun x hx => ?_⟩,hl,hm,hnil⟩⟩
    · have:=qB ((hX 0 h00).2 0 (by omega))
      rwa [add_block] at this
    · have hk : k < len:=by have:=(List.getElem?_eq_some_iff.1 hx).1;simpa using this
      rw [List.getElem?_map,List.getElem?_range hk] at hx
      cases hx
      exact (hX k hk).2 j hj
    · obtain ⟨i,hi,rfl⟩:=List.mem_map.1 hx
      exact (hX i (List.mem_range.1 hi)).1
theorem yE {t tf te : TypeId} {q0 q1 q2 q3 f0 f1 f2 f3 : Field} {r : Reach} {b0 : Nat} {v : Value} {d : DataW H} {ps : List MemPlace} (ht : P.underlying t = some (.struct #[q0,q1,q2,q3])) (hqone : oneCellFields P #[q0,q1,q2,q3] = true)
    (k0 : P.underlying q0.type = some (.int .i64)) (k1 : P.underlying q1.type = some (.int .i64)) (k2 : P.underlying q2.type = some (.int .i64)) (k3 : P.underlying q3.type = some (.slice tf)) (hCt : P.cellsOf t = 4) (hc1 : P.cellsOf tf = 1)
    (hu : P.underlying tf = some (.slice te)) (he : P.underlying te = some (.struct #[f0,f1,f2,f3])) (hone : oneCellFields P #[f0,f1,f2,f3] = true) (hC : P.cellsOf te = 4)
    (h0 : P.underlying f0.type = some (.int .i64)) (h1 : P.underlying f1.type = some (.int .i64)) (h2 : P.underlying f2.type = some (.int .i64)) (h3 : P.underlying f3.type = some (.int .i64))
    (hval : Value.okWide P w r b0 t v) (h : DataW.Trod enc P w base (fun _ => true) held t v d ps) : ∃ p : Pg,v = pgA p ∧ p.Ok w w.heap.size:=by
  obtain ⟨cs,rfl,_⟩:=okWide_struct ht hval
  obtain ⟨fuel,hf⟩:=h
  rw [show (Value.agg cs).cells = cs from rfl] at hf
  obtain ⟨xs,k,_,_,hlen,hxl,hfl⟩:=DataW.trod_struct ht hf
  have hfield : ∀ (j : Nat) (fl : Field),(#[q0,q1,q2,q3] : Array Field)[j]? = some fl → ∃ y,DataW.trod enc P w base (fun _ => true) held k fl.type ((cs.toList.drop j).take 1) = some y:=by
    intro j fl hj
    have hlt : j < 4:=(Array.getElem?_eq_some_iff.1 hj).1
    obtain ⟨ho,hc⟩:=hone_of hqone j fl hj
    have g:=hfl j fl hj
    rw [ho,hc,List.getElem?_eq_getElem (by rw [hxl];exact hlt)] at g
    exact ⟨_,g⟩
  rw [hCt] at hlen
  obtain ⟨cl,hcl⟩ : ∃ cl,cs.toList = cl:=⟨_,rfl⟩
  rw [hcl] at hfield hlen
  have hcs : cs = cl.toArray:=by rw [← hcl]
  subst hcs
  clear hf hfl hcl
  match cl,hlen,hfield with
  | [v0,v1,v2,v3],_,hfield =>
    obtain ⟨_,g0⟩:=hfield 0 q0 rfl
    obtain ⟨_,g1⟩:=hfield 1 q1 rfl
    obtain ⟨_,g2⟩:=hfield 2 q2 rfl
    obtain ⟨y3,g3⟩:=hfield 3 q3 rfl
    simp only [List.drop_succ_cons,List.drop_zero,List.take_succ_cons,List.take_zero] at g0 g1 g2 g3
    obtain ⟨n0,rfl,w0⟩:=lC k0 g0
    obtain ⟨n1,rfl,w1⟩:=lC k1 g1
    obtain ⟨n2,rfl,w2⟩:=lC k2 g2
    rcases open_slice1 k3 hc1 g3 with ⟨hcs,_⟩ | ⟨ad,len,cap,m,n,V,D,Pl,hcs,_,hl,hm,hmm,_,hx⟩
    · simp at hcs
      subst hcs
      exact ⟨⟨n0,n1,n2,none,0,0,[]⟩,rfl,q7 w0,q7 w1,q7 w2,Row.none_ rfl rfl,by simp,Nat.le_refl _,by simp [maxLen],fun _ => rfl⟩
    · simp at hcs
      subst hcs
      simp only [if_true] at hmm
      have each : ∀ i,i < len → ∃ f : Fn,w.cell? (ad.add i) = some (fnV f) ∧ f.Ok w w.heap.size:=by
        intro i hi
        obtain ⟨c1,c2⟩:=hx i (by omega)
        obtain ⟨f,e1,e2⟩:=X7 hu he hone hC h0 h1 h2 h3 c2
        exact ⟨f,by rw [c1,e1],e2⟩
      obtain ⟨X,hX⟩:=choose_lt each
      refine ⟨⟨n0,n1,n2,some ad,len,cap,(List.range len).map X⟩,rfl,q7 w0,q7 w1,q7 w2,?_,fun f hf => ?_,hl,hm,fun h => by cases h⟩
      · exact Y2 X fun i hi => (hX i hi).1
      · obtain ⟨i,hi,rfl⟩:=List.mem_map.1 hf
        exact (hX i (List.mem_range.1 hi)).2
end
end Go.Proofs.YtoekiejipdabmaaDoor
namespace Go.Proofs.YtoekiejipdabmaaDoor
open Go.RowKit
namespace Ma
def behind (n : Nd) (h ex : Nat) (lost : Int) (b : Bool) : Nat :=
  if n.kind = 5 then (if (b || S.has h n.alt) = true then h ||| S.one lost else h) ||| S.one n.alt
  else if n.kind = 6 then h &&& (4294967295 - S.one n.arg)
  else if n.kind = 7 then ex
  else h
theorem andNot_bit {a b k : Nat} (hb : b < 4294967296) (hk : k < 32) : (a &&& (4294967295 - b)).testBit k = (a.testBit k && !b.testBit k):=by
  rw [Nat.testBit_and]
  have e : 4294967295 - b = 2 ^ 32 - (b + 1):=by omega
  rw [e,Nat.testBit_two_pow_sub_succ (by omega),decide_eq_true hk,Bool.true_and]
theorem JG (a : Int) {k : Nat} (hk : k < 32) : (S.one a).testBit k = ((k : Int) == a):=by
  unfold S.one
  split
  · rename_i h
    rw [Nat.testBit_two_pow,Bool.eq_iff_iff,decide_eq_true_eq]
    simp
    omega
  · rename_i h
    symm
    simp
    omega
theorem behind_bit {n : Nd} {h ex k : Nat} {lost : Int} {b : Bool} (hk : k < 32) : (behind n h ex lost b).testBit k =
    if n.kind = 5 then h.testBit k || ((k : Int) == n.alt) || (((k : Int) == lost) && (b || S.has h n.alt)) else if n.kind = 6 then h.testBit k && ((k : Int) != n.arg) else if n.kind = 7 then ex.testBit k else h.testBit k:=by
  unfold behind
  split
  · rw [Nat.testBit_or,JG _ hk]
    cases hc : (b || S.has h n.alt) with
    | true => rw [if_pos rfl,Nat.testBit_or,JG _ hk,Bool.and_true,Bool.or_assoc,Bool.or_assoc,Bool.or_comm ((k : Int) == lost)]
    | false => rw [if_neg (by simp),Bool.and_false,Bool.or_false]
  · split
    · rw [andNot_bit (S.one_lt _) hk,JG _ hk];rfl
    · split <;> rfl
theorem behind_lt {n : Nd} {h ex : Nat} {lost : Int} {b : Bool} (hh : h < 4294967296) (he : ex < 4294967296) : behind n h ex lost b < 4294967296:=by
  unfold behind
  split
  · refine Nat.or_lt_two_pow (n:=32) ?_ (S.one_lt _)
    split
    · exact Nat.or_lt_two_pow (n:=32) hh (S.one_lt _)
    · exact hh
  · split
    · exact Nat.lt_of_le_of_lt Nat.and_le_left hh
    · split
      · exact he
      · exact hh
end Ma
end Go.Proofs.YtoekiejipdabmaaDoor
namespace Go.Proofs.YtoekiejipdabmaaDoor.Q
def small (p : Pg) : Bool:=decide (p.fns.length ≤ 40) && p.fns.all fun f => decide (f.nodes.length ≤ 100)
def rows : List (List Nat):=[[45,110,45],[103,110,45],[103,110,45],[108,110,45],[108,110,45],[102,110,115],[115,110,45],[102,110,45],[45,110,110],[45,45,45]]
def row (k : Int) : List Nat:=if k < 0 ∨ 9 < k then [] else rows.getD k.toNat []
def size (g l s f : Int) (c : Nat) (nodes : Int) : Int:=if c = 103 then g else if c = 108 then l else if c = 115 then s else if c = 102 then f else if c = 110 then max nodes 1 else 1
def fields (x : Nd) : List Int:=[x.arg,x.next,x.alt]
def may (g l s f : Int) (x : Nd) (nodes : Int) : Bool:=decide (row x.kind ≠ []) && (List.range 3).all fun i => decide (0 ≤ (fields x).getD i 0 ∧ (fields x).getD i 0 < size g l s f ((row x.kind).getD i 0) nodes)
def succ (x : Nd) : List Int:=if x.kind = 9 then [] else if x.kind = 8 then [x.next,x.alt] else [x.next]
def calls (p : Pg) (x y : Nat) : Prop:=∃ f,p.fns[x]? = some f ∧ ∃ nd ∈ f.nodes,nd.kind = 7 ∧ nd.arg = (y : Int)
def callsTo (l : List Nd) (y : Nat) : Prop:=∃ nd ∈ l,nd.kind = 7 ∧ nd.arg = (y : Int)
def CallsFit (p : Pg) : Prop:=∀ f ∈ p.fns,∀ nd ∈ f.nodes,nd.kind = 7 → 0 ≤ nd.arg ∧ nd.arg < p.len
def Same (p q : Pg) : Prop:=p.g = q.g ∧ p.l = q.l ∧ p.s = q.s ∧ p.fns.map (·.nodes) = q.fns.map (·.nodes)
theorem Same.len {p q : Pg} (h : Same p q) : p.fns.length = q.fns.length:=by have:=congrArg List.length h.2.2.2;simpa using this
end Go.Proofs.YtoekiejipdabmaaDoor.Q
namespace Go.Proofs.YtoekiejipdabmaaDoor
open Go.RowKit
theorem j7 {P : Program} {ops : Array Oper} {rest : List Oper} {o : Oper} {a : Act} {w : World} {Q : Exit → Act → World → Prop} (hgd : o.guard = none) (ty : TypeId) (ho : o.op = .alloc ty)
    (cs : List Value) (hz : (P.info? ty).map (·.zero) = some (some (.agg cs.toArray)))
    (h : ∀ g w',w.heap.size ≤ g → Blk w' g ty cs → Below w.heap.size w w' → wpList P ops Q rest (a.put o.dst (.pointer (some ⟨g,0,none⟩))) w') : wpList P ops Q (o :: rest) a w:=by
  refine wpList_plain hgd fun K hK => ?_
  cases hq : P.info? ty with
  | none => simp [hq] at hz
  | some i =>
    have hz' : i.zero = some (.agg cs.toArray):=by simpa [hq] using hz
    unfold Oper.wp
    simp [execOp,ho,Instr.alloc,zeroValue,typeInfo,hq,hz',newVar,newRow,Value.cells,Result.andThen]
    exact hK _ _ (h _ _ (Nat.le_refl _) (Blk.newAt rfl rfl) ((Below.refl _ _).alloc (Nat.le_refl _) _))
theorem j4 {P : Program} {ops : Array Oper} {rest : List Oper} {o : Oper} {a : Act} {w : World} {Q : Exit → Act → World → Prop} (hgd : o.guard = none) (ty : TypeId) (x : Operand) (ho : o.op = .box ty x)
    (cs : List Value) (hx : a.eval x = .agg cs.toArray)
    (h : ∀ g w',w.heap.size ≤ g → Blk w' g ty cs → Below w.heap.size w w' → wpList P ops Q rest (a.put o.dst (.pointer (some ⟨g,0,none⟩))) w') : wpList P ops Q (o :: rest) a w:=by
  refine wpList_plain hgd fun K hK => ?_
  unfold Oper.wp
  simp [execOp,ho,hx,Instr.box,newVar,newRow,Value.cells,Result.andThen]
  exact hK _ _ (h _ _ (Nat.le_refl _) (Blk.newAt rfl rfl) ((Below.refl _ _).alloc (Nat.le_refl _) _))
theorem zR {P : Program} {ops : Array Oper} {rest : List Oper} {o : Oper} {a : Act} {w : World} {Q : Exit → Act → World → Prop} (hgd : o.guard = none) (ty : TypeId) (x ix : Operand) (ho : o.op = .index ty x ix)
    (n : Nat) (e : TypeId) (hu : P.underlying ty = some (.array n e)) (d : TypeDesc) (hd : P.underlying e = some d) (hna : (match d with | .struct _ | .array _ _ => false | _ => true) = true) (hsz : (P.info? e).map (·.size) = some 1)
    (cs : List Value) (hx : a.eval x = .agg cs.toArray) (i : Nat) (hi : a.eval ix = .int .i64 (i : Int)) (hin : i < n) (v : Value) (hv : cs[i]? = some v)
    (h : wpList P ops Q rest (a.put o.dst v) w) : wpList P ops Q (o :: rest) a w:=by
  refine wpList_plain hgd fun K hK => ?_
  have hagg : (isAgg e).run P w = .ok false w:=by
    unfold isAgg
    rw [Sem.run_bind,run_underlying hd w]
    cases d <;> simp_all
  cases hq : P.info? e with
  | none => simp [hq] at hsz
  | some ie =>
    have hs : ie.size = 1:=by simpa [hq] using hsz
    unfold Oper.wp
    simp [execOp,ho,Instr.index,hx,hi,asIntOf,run_underlying hu,hin,sizeOf,typeInfo,hq,hs,part,hagg,hv,Result.andThen]
    exact hK _ _ h
theorem jM (p : Pg) : pgA p = .agg (pgC p).toArray:=rfl
def ndC (x : Nd) : List Value:=[.int .i64 x.kind,.int .i64 x.arg,.int .i64 x.next,.int .i64 x.alt]
theorem j8 {w : World} {g : Nat} {t : TypeId} {p : Pg} (h : Blk w g t (pgC p)) :
    w.cell? ⟨g,0,none⟩ = some (.int .i64 p.g) ∧ w.cell? ⟨g,1,none⟩ = some (.int .i64 p.l) ∧ w.cell? ⟨g,2,none⟩ = some (.int .i64 p.s) ∧ w.cell? ⟨g,3,none⟩ = some (.slice p.A p.len p.cap) :=
  ⟨Blk.cell h 0,Blk.cell h 1,Blk.cell h 2,Blk.cell h 3⟩
theorem jB {w : World} {g : Nat} {t : TypeId} {x : Nd} (h : Blk w g t (ndC x)) :
    w.cell? ⟨g,0,none⟩ = some (.int .i64 x.kind) ∧ w.cell? ⟨g,1,none⟩ = some (.int .i64 x.arg) ∧ w.cell? ⟨g,2,none⟩ = some (.int .i64 x.next) ∧ w.cell? ⟨g,3,none⟩ = some (.int .i64 x.alt) :=
  ⟨Blk.cell h 0,Blk.cell h 1,Blk.cell h 2,Blk.cell h 3⟩
set_option maxRecDepth 100000 in
set_option maxHeartbeats 800000 in
theorem l0 (B : Nat) (p : Pg) (w : World) (hp : p.Ok w B) (hB : B ≤ w.heap.size) (r : Bool) (hr : Q.small p = r) :
    Calls Tryd.prog 8 #[pgA p] w fun e w' => e = .returned (.bool r) ∧ Below w.heap.size w w':=by
  have HP:=kp hp;have HR:=kp hr
  have hlen:=hp.row.len
  have HLen:=kp hlen
  have hlc:=hp.lc;have hcm:=hp.cm
  unfold maxLen at hcm
  have hcm2 : p.cap ≤ 9223372036854775807:=by omega
  clear hp hr hlen hcm
  rw [jM]
  go_enter Tryd.func8,Tryd.ntmps8
  by_cases h40 : 40 < p.len
  · have HE : Kept (false = r):=kp <| by rw [← HR.out];unfold Q.small;rw [HLen.out,decide_eq_false (by omega)];rfl
    go_wp2_with ((with_reducible refine j4 rfl 24 (.tmp 0) rfl (pgC p) rfl ?_);intro g1 w1 hg1 hk1 hw1;obtain ⟨hc0,hc1,hc2,hc3⟩:=j8 hk1;have HW1:=kp hw1;clear hg1 hk1 hw1)
    go_ret
    exact ⟨jG HE.out,HW1.out⟩
  · have h40' : p.len ≤ 40:=by omega
    clear h40
    go_wp2_with ((with_reducible refine j4 rfl 24 (.tmp 0) rfl (pgC p) rfl ?_);intro g1 w1 hg1 hk1 hw1;obtain ⟨hc0,hc1,hc2,hc3⟩:=j8 hk1;have HW1:=kp hw1;have HP1:=kp (HP.out.below (hw1.mono hB));clear hg1 hk1 hw1)
    go_loop [3] (fun v3 => ∃ i : Nat,i ≤ p.len ∧ v3 = .int .i64 i ∧ ((p.fns.take i).all fun f => decide (f.nodes.length ≤ 100)) = true) (fun v3 => p.len - (intOf v3).toNat)
    case atStart => exact ⟨0,by omega,rfl,rfl⟩
    case round =>
      obtain ⟨i,hi,rfl,hall⟩:=hrel
      have HAll:=kp hall
      clear hall
      by_cases hlt : i < p.len
      · obtain ⟨ad,f,e1,hab,hx,hok,hcf⟩:=HP1.out.fn hlt
        rw [e1] at hc3 ⊢
        have hfl:=hok.nodes.1.len
        have hfc:=hok.lc;have hfm:=hok.cm
        unfold maxLen at hfm
        have hfm2 : f.len ≤ 9223372036854775807:=by omega
        have HN : Kept (((p.fns.take (i + 1)).all fun f => decide (f.nodes.length ≤ 100)) = decide (f.len ≤ 100)):=kp <| by rw [List.take_add_one,hx,List.all_append,HAll.out];simp [hfl]
        have HNo : Kept (100 < f.len → false = r):=kp fun h => by
          rw [← HR.out]
          unfold Q.small
          have : (p.fns.all fun f => decide (f.nodes.length ≤ 100)) = false:=by
            rw [List.all_eq_false]
            exact ⟨f,List.mem_of_getElem? hx,by simp [hfl];omega⟩
          rw [this,Bool.and_false]
        clear hx hok hfm
        by_cases h100 : 100 < f.len
        · have HE:=kp (HNo.out h100)
          go_wp2
          go_ret
          exact ⟨jG HE.out,HW1.out⟩
        · have h100' : f.len ≤ 100:=by omega
          clear h100
          go_wp2
          go_round
          case rel => exact ⟨i + 1,by omega,by go_num,by rw [HN.out];simpa using h100'⟩
          case measure => simp [intOf];omega
      · have HE : Kept (true = r):=kp <| by
          have h1:=HAll.out
          rw [List.take_of_length_le (by rw [HLen.out];omega)] at h1
          rw [← HR.out];unfold Q.small;rw [HLen.out,decide_eq_true h40',h1];rfl
        have hge : p.len ≤ i:=by omega
        clear hlt
        go_wp2
        go_ret
        exact ⟨jG HE.out,HW1.out⟩
set_option maxRecDepth 100000 in
set_option maxHeartbeats 800000 in
theorem zF (x : Nd) (w : World) :
    Calls Tryd.prog 43 #[ndA x] w fun e w' => ∃ v,e = .returned v ∧ Own w' w.heap.size 3 v ((Q.succ x).map intV) ∧ Below w.heap.size w w':=by
  obtain ⟨l,hl⟩ : ∃ l,Q.succ x = l:=⟨_,rfl⟩
  have HL:=kp hl
  rw [hl]
  clear hl
  rw [show ndA x = .agg (ndC x).toArray from rfl]
  go_enter Tryd.func43,Tryd.ntmps43
  by_cases h9 : x.kind = 9
  · have HE : Kept ([] = l):=kp <| by rw [← HL.out];unfold Q.succ;rw [if_pos h9]
    have hz : (x.kind == 9) = true:=by simpa using h9
    clear h9
    go_wp2_with ((with_reducible refine j4 rfl 66 (.tmp 0) rfl (ndC x) rfl ?_);intro g1 w1 hg1 hk1 hw1;obtain ⟨hc0,hc1,hc2,hc3⟩:=jB hk1;have HW1:=kp hw1;clear hg1 hk1 hw1)
    go_ret
    exact ⟨_,rfl,by rw [← HE.out];exact Own.nil _ _ _,HW1.out⟩
  · have hz : (x.kind == 9) = false:=by simpa using h9
    by_cases h8 : x.kind = 8
    · have HE : Kept ([x.next,x.alt] = l):=kp <| by rw [← HL.out];unfold Q.succ;rw [if_neg h9,if_pos h8]
      have hz8 : (x.kind == 8) = true:=by simpa using h8
      clear h9 h8
      go_wp2_with ((with_reducible refine j4 rfl 66 (.tmp 0) rfl (ndC x) rfl ?_);intro g1 w1 hg1 hk1 hw1;obtain ⟨hc0,hc1,hc2,hc3⟩:=jB hk1;have HW1:=kp hw1;have hs1:=hw1.size;clear hg1 hk1 hw1)
      go_ret
      exact ⟨_,rfl,by rw [← HE.out];exact Own.new w1 w.heap.size 3 [intV x.next,intV x.alt] hs1 (by simp [maxLen]),HW1.out.alloc hs1 _⟩
    · have HE : Kept ([x.next] = l):=kp <| by rw [← HL.out];unfold Q.succ;rw [if_neg h9,if_neg h8]
      have hz8 : (x.kind == 8) = false:=by simpa using h8
      clear h9 h8
      go_wp2_with ((with_reducible refine j4 rfl 66 (.tmp 0) rfl (ndC x) rfl ?_);intro g1 w1 hg1 hk1 hw1;obtain ⟨hc0,hc1,hc2,hc3⟩:=jB hk1;have HW1:=kp hw1;have hs1:=hw1.size;clear hg1 hk1 hw1)
      go_ret
      exact ⟨_,rfl,by rw [← HE.out];exact Own.new w1 w.heap.size 3 [intV x.next] hs1 (by simp [maxLen]),HW1.out.alloc hs1 _⟩
end Go.Proofs.YtoekiejipdabmaaDoor
