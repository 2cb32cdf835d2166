/- SetMath, Base, Mem, Kit, Cell, Open, Recs, ProgIn, MayBeh, ProgMath, Arr, ProgRef1, SetMath2, SetRef1, SetRef2, SetP1. -/
import Derived.WalkKit
import Derived.Handy
import Derived.ProofKit
import Derived.Lib.Hide
import Derived.Below
import Derived.Deep.AppendLies
import Derived.Laws.AppendOwnNone
import Derived.Laws.BytesArg
import Derived.Deep.Draws
import Derived.Deep.DeepMust
import Derived.Laws.Rows
import Derived.Deep.MidRow
import Derived.Maps.AppendAt
import Derived.Test.YtoekiejipdabmaaRows
import Derived.BigQuiet
import Derived.Deep.QuietTactic
import Derived.Deep.Grids
import Derived.Deep.Matrix
import Derived.Deep.Fields
import Derived.Deep.RegionWith
import Derived.Laws.BitsAllLaws
namespace Go.Proofs.Ytoekiejipdabmaa.S
def has (m : Nat) (id : Int) : Bool:=decide (0 ≤ id ∧ id ≤ 31) && m.testBit id.toNat
theorem has_out (m : Nat) (id : Int) (h : id < 0 ∨ 31 < id) : has m id = false:=by
  unfold has;rw [decide_eq_false (by omega)];rfl
theorem has_in (m : Nat) (i : Nat) (h : i ≤ 31) : has m (i : Int) = m.testBit i:=by
  unfold has;rw [decide_eq_true (by omega)];simp
theorem bit_div (m i : Nat) : m.testBit i = decide (m / 2 ^ i % 2 = 1):=Nat.testBit_eq_decide_div_mod_eq
def ids (m : Nat) (n : Nat) : List Nat:=(List.range n).filter fun i => m.testBit i
theorem ids_succ (m n : Nat) : ids m (n + 1) = ids m n ++ (if m.testBit n then [n] else []):=by
  unfold ids
  rw [List.range_succ,List.filter_append]
  by_cases h : m.testBit n <;> simp [h]
theorem ids_len (m n : Nat) : (ids m n).length ≤ n:=by
  have:=List.length_filter_le (fun i => m.testBit i) (List.range n)
  simpa [ids] using this
theorem ids_mem (m n x : Nat) : x ∈ ids m n ↔ x < n ∧ m.testBit x = true:=by simp [ids]
def mask (l : List Nat) : Nat:=(l.map (2 ^ ·)).sum
theorem mask_snoc (l : List Nat) (x : Nat) : mask (l ++ [x]) = mask l + 2 ^ x:=by simp [mask]
theorem mask_le (l : List Nat) (h : ∀ x ∈ l,x ≤ 31) : mask l ≤ l.length * 2147483648:=by
  induction l with
  | nil => simp [mask]
  | cons x r ih =>
    have h1:=ih fun y hy => h y (by simp [hy])
    have h2 : 2 ^ x ≤ 2 ^ 31:=Nat.pow_le_pow_right (by decide) (h x (by simp))
    simp only [mask,List.map_cons,List.sum_cons,List.length_cons] at *
    omega
theorem mask_ids (m : Nat) : ∀ n,mask (ids m n) = m % 2 ^ n
  | 0 => by simp [mask,ids,Nat.mod_one]
  | n + 1 => by
    have hb:=bit_div m n
    have hm : m / 2 ^ n % 2 = 0 ∨ m / 2 ^ n % 2 = 1:=by omega
    rw [ids_succ,Nat.mod_pow_succ,← mask_ids m n]
    rcases hm with h | h
    · rw [h] at hb ⊢
      rw [if_neg (by rw [hb];decide),List.append_nil];simp
    · rw [h] at hb ⊢
      rw [if_pos (by rw [hb];decide),mask_snoc];simp
def bad (l : List Int) (size : Int) (i : Nat) : Nat :=
  let x:=l.getD i 0
  if x < 0 ∨ size ≤ x ∨ 31 < x then 1 else if 0 < i ∧ x ≤ l.getD (i - 1) 0 then 5 else 0
def first (l : List Int) (size : Int) : Nat → Nat
  | 0 => 0
  | n + 1 => if first l size n = 0 then bad l size n else first l size n
def count (m : Nat) : Nat:=(ids m 32).length
def least (m : Nat) : Int:=match ids m 32 with | [] => -1 | x :: _ => (x : Int)
def all (n : Int) : Nat:=if n ≤ 0 then 0 else if 32 ≤ n then 4294967295 else 2 ^ n.toNat - 1
def one (id : Int) : Nat:=if 0 ≤ id ∧ id ≤ 31 then 2 ^ id.toNat else 0
theorem one_nat (i : Nat) (h : i ≤ 31) : one (i : Int) = 2 ^ i:=by unfold one;rw [if_pos (by omega),Int.toNat_natCast]
theorem one_out (id : Int) (h : id < 0 ∨ 31 < id) : one id = 0:=by unfold one;rw [if_neg (by omega)]
theorem one_lt (id : Int) : one id < 4294967296:=by
  unfold one
  split
  · have : 2 ^ id.toNat ≤ 2 ^ 31:=Nat.pow_le_pow_right (by decide) (by omega)
    omega
  · decide
end Go.Proofs.Ytoekiejipdabmaa.S
namespace Go.Proofs.Ytoekiejipdabmaa
open Go.RowKit
section
variable {P : Program} {ops : Array Oper} {Q : Exit → Act → World → Prop} {l : List Oper} {a : Act} {w : World}
abbrev Sl (n : Nat) {x1 : Op} {x2 : TypeId} {x3 : String} {x4 : Array Edge} {x5 : Option (Nat × Bool)} : Prop:=wpList P ops Q (⟨some n,x1,x2,x3,x4,x5⟩ :: l) a w
abbrev Sn {x1 : Op} {x2 : TypeId} {x3 : String} {x4 : Array Edge} {x5 : Option (Nat × Bool)} : Prop:=wpList P ops Q (⟨none,x1,x2,x3,x4,x5⟩ :: l) a w
end
theorem jK {k : IntKind} {a b : Int} (h : a = b) : Ending.returned (.int k a) = .returned (.int k b):=by rw [h]
theorem add_block (a : Addr) (k : Nat) : (a.add k).block = a.block:=by unfold Addr.add;split <;> rfl
theorem add_add (a : Addr) (i j : Nat) : (a.add i).add j = a.add (i + j):=by
  unfold Addr.add
  by_cases hi : i = 0 <;> by_cases hj : j = 0 <;> simp [hi,hj,Nat.add_assoc]
structure Kept (p : Prop) : Prop where
  out : p
theorem kp {p : Prop} (h : p) : Kept p:=⟨h⟩
structure Row {α : Type} (f : α → Value) (w : World) (B : Nat) (A : Option Addr) (n : Nat) (l : List α) : Prop where
  len : l.length = n
  cells : 0 < n → ∃ ad,A = some ad ∧ ad.block < B ∧ ∀ k,k < n → w.cell? (ad.add k) = l[k]?.map f
variable {α : Type} {f : α → Value} {w w' : World} {B B' : Nat} {A : Option Addr} {n : Nat} {l : List α}
theorem Row.get (h : Row f w B A n l) {k : Nat} (hk : k < n) : ∃ ad x,A = some ad ∧ ad.block < B ∧ l[k]? = some x ∧ w.cell? (ad.add k) = some (f x):=by
  obtain ⟨ad,e,hb,hc⟩:=h.cells (by omega)
  have hl : k < l.length:=by rw [h.len];exact hk
  refine ⟨ad,l[k],e,hb,List.getElem?_eq_getElem hl,?_⟩
  rw [hc k hk,List.getElem?_eq_getElem hl];rfl
theorem Row.keep (h : Row f w B A n l) (hk : ∀ p : Addr,p.block < B → w'.cell? p = w.cell? p) : Row f w' B A n l :=
  ⟨h.len,fun hn => by
    obtain ⟨ad,e,hb,hc⟩:=h.cells hn
    exact ⟨ad,e,hb,fun k hlt => (hk _ (by rw [add_block];exact hb)).trans (hc k hlt)⟩⟩
theorem Row.below (h : Row f w B A n l) (hb : Below B w w') : Row f w' B A n l:=h.keep fun _ hp => hb.cell hp
theorem Row.more (h : Row f w B A n l) (hB : B ≤ B') : Row f w B' A n l :=
  ⟨h.len,fun hn => by obtain ⟨ad,e,hb,hc⟩:=h.cells hn;exact ⟨ad,e,by omega,hc⟩⟩
theorem Row.take (h : Row f w B A n l) {k : Nat} (hk : k ≤ n) : Row f w B A k (l.take k) :=
  ⟨by rw [List.length_take,h.len];omega,fun h0 => by
    obtain ⟨ad,e,hb,hc⟩:=h.cells (by omega)
    exact ⟨ad,e,hb,fun j hj => by rw [hc j (by omega),List.getElem?_take,if_pos hj]⟩⟩
theorem Row.none_ {A : Option Addr} (h : l = []) (hn : n = 0) : Row f w B A n l:=⟨by rw [h,hn];rfl,fun h0 => by omega⟩
def byteV (b : Nat) : Value:=.int .u8 (b : Int)
def Own (w : World) (B : Nat) (e : TypeId) (v : Value) (xs : List Value) : Prop:=w.ownsRow B e 1 v xs.length xs
theorem Own.nil (w : World) (B : Nat) (e : TypeId) : Own w B e (.slice none 0 0) []:=World.ownsRow_nil w B e 1
theorem Own.new (w : World) (B : Nat) (e : TypeId) (xs : List Value) (hB : B ≤ w.heap.size) (hm : xs.length ≤ maxLen) :
    Own (w.alloc (.cells xs.toArray e)) B e (.slice (some ⟨w.heap.size,0,none⟩) xs.length xs.length) xs:=by
  have h:=World.ownsRow_lit (size:=1) (e:=e) w xs.toArray xs.length hB hm (by simp)
  unfold Own;simpa using h
theorem Own.form {e : TypeId} {v : Value} {xs : List Value} (h : Own w B e v xs) : ∃ A cap,v = .slice A xs.length cap ∧ xs.length ≤ cap ∧ cap ≤ maxLen ∧ Row (fun u => u) w w.heap.size A xs.length xs ∧ (∀ ad,A = some ad → B ≤ ad.block):=by
  rcases h.2 with ⟨rfl,h0⟩ | ⟨g,cap,cur,rfl,hB,hg,hn,hm,hs,ht⟩
  · refine ⟨none,0,by rw [h0],by omega,by simp [maxLen],⟨rfl,fun h => by omega⟩,fun _ h => by cases h⟩
  · refine ⟨_,cap,rfl,hn,hm,⟨rfl,fun h0 => ⟨_,rfl,?_,fun k hk => ?_⟩⟩,fun ad h => by cases h;exact hB⟩
    · rcases Nat.lt_or_ge g w.heap.size with hlt | hge
      · exact hlt
      · rw [Array.getElem?_eq_none hge] at hg;cases hg
    · have hadd : (⟨g,0,none⟩ : Addr).add k = ⟨g,k,none⟩:=by unfold Addr.add;split <;> simp_all
      rw [hadd,cell_of_row w g k cur e (0,0) hg,← Array.getElem?_toList]
      have : xs[k]? = cur.toList[k]?:=by
        conv => lhs;rw [← ht]
        rw [List.getElem?_take,if_pos (by omega)]
      rw [this];cases cur.toList[k]? <;> rfl
theorem Own.bytes {e : TypeId} {v : Value} {bs : List Nat} (h : Own w B e v (bs.map byteV)) : ∃ A cap,v = .slice A bs.length cap ∧ bs.length ≤ cap ∧ cap ≤ maxLen ∧ Row byteV w w.heap.size A bs.length bs:=by
  obtain ⟨A,cap,hv,hc,hm,hr,_⟩:=h.form
  rw [List.length_map] at hv hc hr
  refine ⟨A,cap,hv,hc,hm,⟨rfl,fun h0 => ?_⟩⟩
  obtain ⟨ad,e1,hb,hcell⟩:=hr.cells h0
  exact ⟨ad,e1,hb,fun k hk => by rw [hcell k hk,List.getElem?_map];cases bs[k]? <;> rfl⟩
theorem Own.readsN {α : Type} {f : α → Value} {e : TypeId} {v : Value} {l : List α} {n : Nat} (h : Own w B e v (l.map f)) (hn : l.length = n) : ∃ A cap,v = .slice A n cap ∧ n ≤ cap ∧ cap ≤ maxLen ∧ Row f w w.heap.size A n l:=by
  subst hn
  obtain ⟨A,cap,hv,hc,hm,hr,_⟩:=h.form
  rw [List.length_map] at hv hc hr
  refine ⟨A,cap,hv,hc,hm,⟨rfl,fun h0 => ?_⟩⟩
  obtain ⟨ad,e1,hb,hcell⟩:=hr.cells h0
  exact ⟨ad,e1,hb,fun k hk => by rw [hcell k hk,List.getElem?_map];cases l[k]? <;> rfl⟩
theorem Own.block {e : TypeId} {v : Value} {xs : List Value} (h : Own w B e v xs) : ∀ k,v.ownBlock = some k → B ≤ k ∧ k < w.heap.size:=World.ownsRow.lt h
theorem Own.below {e : TypeId} {v : Value} {xs : List Value} {C : Nat} (h : Own w B e v xs) (hb : Below C w w') (hC : w.heap.size ≤ C) : Own w' B e v xs :=
  World.ownsRow.kept (row:=none) h ⟨hb.os,hb.tape,hb.output,hb.size,fun k hk _ => hb.block k (by omega)⟩ (by
    rcases h.2 with ⟨rfl,h0⟩ | ⟨g,cap,cur,rfl,_⟩
    · exact .inl rfl
    · exact .inr (by simp [Value.ownBlock]))
theorem jP (w : World) (o : Obj) (row : Option Nat) {w' : World} (h : (w.alloc o).grownBy w' row) : w.grownBy w' row :=
  ⟨h.os,h.tape,h.output,by have:=h.size;simp at this;omega,fun k hk hne => (h.block k (by simp;omega) hne).trans (Below.heap_alloc w o k hk)⟩
def Grew (w w' : World) (v v' : Value) : Prop:=w.grownBy w' v.ownBlock ∧ (v'.ownBlock = v.ownBlock ∨ ∀ g,v'.ownBlock = some g → w.heap.size ≤ g)
theorem Grew.refl (w : World) (v : Value) : Grew w w v v:=⟨World.grownBy.refl w _,.inl rfl⟩
theorem Grew.size {v v' : Value} (h : Grew w w' v v') : w.heap.size ≤ w'.heap.size:=h.1.size
theorem Grew.trans {w1 w2 w3 : World} {v1 v2 v3 : Value} (h : Grew w1 w2 v1 v2) (k : Grew w2 w3 v2 v3) : Grew w1 w3 v1 v3:=by
  refine ⟨⟨k.1.os.trans h.1.os,k.1.tape.trans h.1.tape,k.1.output.trans h.1.output,Nat.le_trans h.1.size k.1.size,fun i hi hne => ?_⟩,?_⟩
  · refine (k.1.block i (Nat.lt_of_lt_of_le hi h.1.size) ?_).trans (h.1.block i hi hne)
    rcases h.2 with h2 | h2
    · rw [h2];exact hne
    · intro e
      have:=h2 i e.symm
      omega
  · rcases k.2 with k2 | k2
    · rcases h.2 with h2 | h2
      · exact .inl (k2.trans h2)
      · exact .inr fun g hg => h2 g (by rw [← k2];exact hg)
    · exact .inr fun g hg => Nat.le_trans h.1.size (k2 g hg)
theorem Grew.below {v v' : Value} {w0 : World} {e : TypeId} {xs : List Value} (h : Grew w w' v v') (hb : Below B w0 w) (ho : Own w B e v xs) (hB : B ≤ w.heap.size) : Below B w0 w' :=
  hb.grown h.1 hB fun k hk => (ho.block k hk).1
theorem jI {P : Program} {ops : Array Oper} {rest : List Oper} {o : Oper} {a : Act} {Q : Exit → Act → World → Prop} (hgd : o.guard = none) (s x : Operand) (t : TypeId)
    (ho : o.op = .call { callee:=.builtin .append,args:=#[s,x],argTypes:=#[t,t] })
    (B : Nat) (e : TypeId) (z : Value) (bytes : Nat) (ht : P.underlying t = some (.slice e)) (hi : (P.info? e).map (fun i => (i.zero,i.size,i.bytes)) = some (some z,1,bytes)) (hzs : z.cells.size = 1)
    (w : World) (v : Value) (xs : List Value) (u : Value) (hs : a.eval s = v) (hown : Own w B e v xs) (ad : Addr) (c : Nat) (hx : a.eval x = .slice (some ad) 1 c) (had : ad = ⟨w.heap.size,0,none⟩)
    (h1 : u.oneCell' = true) (h63 : xs.length + 1 ≤ maxLen) (hbytes : (xs.length + 1) * bytes ≤ 140737488355328) (hB : B ≤ w.heap.size)
    (h : ∀ v' w',Own w' B e v' (xs ++ [u]) → Grew w w' v v' → wpList P ops Q rest (a.put o.dst v') w') : wpList P ops Q (o :: rest) a (w.alloc (.cells #[u] e)):=by
  subst had
  obtain ⟨i,hi0,hz,hsize,hby⟩:=info_parts hi
  refine wpList_append_lies _ hgd s x t ho B e i z 1 bytes ht hi0 hz hsize hby hzs (by omega) v xs.length xs hs (World.ownsRow.alloc hown _) _ 1 c [u] hx (by simp) (cell_one_new w u e) (by simpa using h1)
    (by omega) h63 hbytes (by simp;omega) _ rfl ?_
  intro g cap w' h2 h3 h4 h5
  refine h _ w' ?_ ⟨jP _ _ _ h3,?_⟩
  rotate_left
  · rcases h4 with h4 | h4
    · exact .inl h4.symm
    · refine .inr fun k hk => ?_
      have : g = k:=by simpa [Value.ownBlock] using hk
      subst this
      rw [h4];simp
  unfold Own
  rw [List.length_append,List.length_singleton]
  exact h2
def IsRow (k : IntKind) (w : World) (a : Option Addr) (len cap : Nat) (zs : List Int) : Prop :=
  (a = none ∧ len = 0 ∧ cap = 0 ∧ zs = []) ∨
  ∃ x,a = some x ∧ len ≤ cap ∧ cap ≤ maxLen ∧ zs.length = cap ∧ (∀ i,i < zs.length → w.cell? (x.add i) = some (.int k (zs.getD i 0))) ∧ ∀ n ∈ zs,(Lit.int k n).wf = true
theorem jQ {w : World} {a : Addr} {v : Value} (h : w.cell? a = some v) : a.block < w.heap.size:=by
  rcases Nat.lt_or_ge a.block w.heap.size with hlt | hge
  · exact hlt
  · unfold World.cell? at h
    rw [Array.getElem?_eq_none hge] at h
    cases h
theorem IsRow.nats {k : IntKind} {w : World} {a : Option Addr} {len cap : Nat} {zs : List Int} (h : IsRow k w a len cap zs) (M : Nat) (hM : ∀ n : Int,(Lit.int k n).wf = true → 0 ≤ n ∧ n < (M : Int)) :
    ∃ l : List Nat,Row (fun b : Nat => .int k (b : Int)) w w.heap.size a len l ∧ (∀ x ∈ l,x < M) ∧ len ≤ maxLen ∧ len ≤ cap ∧ cap ≤ maxLen:=by
  rcases h with ⟨rfl,rfl,rfl,rfl⟩ | ⟨x,rfl,hl,hm,hz,hc,hw⟩
  · exact ⟨[],⟨rfl,fun h => by omega⟩,by simp,by simp [maxLen],by omega,by simp [maxLen]⟩
  · refine ⟨(zs.take len).map Int.toNat,⟨by simp;omega,fun h0 => ⟨x,rfl,?_,fun k hk => ?_⟩⟩,?_,by omega,hl,hm⟩
    · have:=jQ (hc 0 (by omega))
      rwa [add_block] at this
    · rw [hc k (by omega)]
      have hk2 : k < zs.length:=by omega
      rw [List.getElem?_map,List.getElem?_take,if_pos hk,List.getElem?_eq_getElem hk2,List.getD_eq_getElem?_getD,List.getElem?_eq_getElem hk2]
      have:=(hM _ (hw _ (List.getElem_mem hk2))).1
      simp [Int.toNat_of_nonneg this]
    · intro y hy
      obtain ⟨n,hn,rfl⟩:=List.mem_map.1 hy
      have:=hM n (hw n (List.mem_of_mem_take hn))
      omega
theorem jY (n : Int) (h : (Lit.int .u8 n).wf = true) : 0 ≤ n ∧ n < 256:=by
  simp [Lit.wf,IntKind.min,IntKind.max,IntKind.bits,IntKind.signed] at h;omega
theorem jU (n : Int) (h : (Lit.int .u32 n).wf = true) : 0 ≤ n ∧ n < 4294967296:=by
  simp [Lit.wf,IntKind.min,IntKind.max,IntKind.bits,IntKind.signed] at h;omega
theorem IsRow.bytes {w : World} {a : Option Addr} {len cap : Nat} {zs : List Int} (h : IsRow .u8 w a len cap zs) :
    ∃ l : List Nat,Row byteV w w.heap.size a len l ∧ (∀ x ∈ l,x < 256) ∧ len ≤ maxLen ∧ len ≤ cap ∧ cap ≤ maxLen:=h.nats 256 jY
theorem Row.made {α : Type} (f : α → Value) (w : World) (l : List α) (cs : Array Value) (hcs : cs.toList = l.map f) (e : TypeId) : Row f (w.alloc (.cells cs e)) (w.alloc (.cells cs e)).heap.size (some ⟨w.heap.size,0,none⟩) l.length l :=
  ⟨rfl,fun _ => ⟨_,rfl,by simp,fun k _ => by
    have hadd : (⟨w.heap.size,0,none⟩ : Addr).add k = ⟨w.heap.size,k,none⟩:=by unfold Addr.add;split <;> simp_all
    rw [hadd,cell_of_row _ w.heap.size k cs e (0,0) (heap_alloc_new w _),← Array.getElem?_toList,hcs,List.getElem?_map]⟩⟩
def Blk (w : World) (g : Nat) (t : TypeId) (cs : List Value) : Prop:=w.heap[g]? = some (.cells cs.toArray t (0,0))
theorem Blk.lt {w : World} {g : Nat} {t : TypeId} {cs : List Value} (h : Blk w g t cs) : g < w.heap.size:=by
  rcases Nat.lt_or_ge g w.heap.size with hlt | hge
  · exact hlt
  · unfold Blk at h
    rw [Array.getElem?_eq_none hge] at h;cases h
theorem Blk.cell {w : World} {g : Nat} {t : TypeId} {cs : List Value} (h : Blk w g t cs) (k : Nat) : w.cell? ⟨g,k,none⟩ = cs[k]?:=by
  rw [cell_of_row w g k cs.toArray t (0,0) h];simp
theorem Blk.set {w : World} {g : Nat} {t : TypeId} {cs : List Value} (h : Blk w g t cs) (k : Nat) (v : Value) : Blk (w.setCell ⟨g,k,none⟩ v) g t (cs.set k v):=by
  have:=heap_setCell_same w g k cs.toArray t v h
  unfold Blk;simpa using this
theorem Blk.alloc {w : World} {g : Nat} {t : TypeId} {cs : List Value} (h : Blk w g t cs) (o : Obj) : Blk (w.alloc o) g t cs:=by
  unfold Blk;rw [Below.heap_alloc w o g h.lt];exact h
theorem Blk.new (w : World) (t : TypeId) (cs : List Value) : Blk (w.alloc (.cells cs.toArray t)) w.heap.size t cs:=heap_alloc_new w _
theorem Blk.newA (w : World) (t : TypeId) (c : Array Value) (cs : List Value) (hc : c = cs.toArray) : Blk (w.alloc (.cells c t)) w.heap.size t cs:=by subst hc;exact heap_alloc_new w _
theorem Blk.newAt {w : World} {t : TypeId} {c : Array Value} {cs : List Value} {g : Nat} (hc : c = cs.toArray) (hg : g = w.heap.size) : Blk (w.alloc (.cells c t)) g t cs:=by subst hc;subst hg;exact heap_alloc_new w _
theorem Blk.below {w w' : World} {g B : Nat} {t : TypeId} {cs : List Value} (h : Blk w g t cs) (hb : Below B w w') (hg : g < B) : Blk w' g t cs:=by
  unfold Blk;rw [hb.block g hg];exact h
theorem Blk.grown {w w' : World} {g : Nat} {t : TypeId} {cs : List Value} {row : Option Nat} (h : Blk w g t cs) (hg : w.grownBy w' row) (hne : some g ≠ row) : Blk w' g t cs:=by
  unfold Blk;rw [hg.block g h.lt hne];exact h
theorem Blk.range {w : World} {g : Nat} {t : TypeId} {cs : List Value} (h : Blk w g t cs) (o n : Nat) : w.rangeAt g o ((cs.drop o).take n):=by
  intro j v hv
  rw [h.cell (o + j)]
  rw [List.getElem?_take] at hv
  split at hv
  · rw [List.getElem?_drop] at hv;exact hv
  · cases hv
theorem Blk.row {α : Type} {f : α → Value} {w : World} {g B : Nat} {t : TypeId} {l : List α} (h : Blk w g t (l.map f)) {n : Nat} (hn : l.length = n) (hB : w.heap.size ≤ B) : Row f w B (some ⟨g,0,none⟩) n l :=
  ⟨hn,fun _ => ⟨_,rfl,Nat.lt_of_lt_of_le h.lt hB,fun k _ => by
    have hadd : (⟨g,0,none⟩ : Addr).add k = ⟨g,k,none⟩:=by unfold Addr.add;split <;> simp_all
    rw [hadd,h.cell k,List.getElem?_map]⟩⟩
theorem Row.grown {α : Type} {f : α → Value} {w w' : World} {B n : Nat} {ad : Option Addr} {l : List α} {row : Option Nat} (h : Row f w B ad n l) (hg : w.grownBy w' row) (hB : B ≤ w.heap.size) (hne : ∀ a,0 < n → ad = some a → some a.block ≠ row) : Row f w' B ad n l :=
  ⟨h.len,fun h0 => by
    obtain ⟨a,e,hb,hc⟩:=h.cells h0
    refine ⟨a,e,hb,fun k hk => ?_⟩
    rw [← hc k hk]
    refine World.cell?_of_block (w:=w) ?_
    rw [add_block]
    exact hg.block a.block (by omega) (hne a h0 e)⟩
theorem j3 {P : Program} {ops : Array Oper} {rest : List Oper} {o : Oper} {a : Act} {w : World} {Q : Exit → Act → World → Prop} (hgd : o.guard = none) (ty : TypeId) (x : Operand) (ho : o.op = .load ty x)
    (g : Nat) (hx : a.eval x = .pointer (some ⟨g,0,none⟩)) (t : TypeId) (cs : List Value) (d : TypeDesc) (hg : Blk w g t cs)
    (hu : P.underlying ty = some d) (hd : (match d with | .struct _ | .array _ _ => true | _ => false) = true) (hi : (P.info? ty).map (·.size) = some cs.length)
    (h : wpList P ops Q rest (a.put o.dst (.agg cs.toArray)) w) : wpList P ops Q (o :: rest) a w :=
  wpList_load_row hgd ty x ho g hx t cs.toArray (0,0) d hg hu hd (by simpa using hi) h
theorem j5 {P : Program} {ops : Array Oper} {rest : List Oper} {o : Oper} {a : Act} {w : World} {Q : Exit → Act → World → Prop} (hgd : o.guard = none) (ty : TypeId) (x y : Operand) (ho : o.op = .store ty x y)
    (g : Nat) (cs : List Value) (hx : a.eval x = .pointer (some ⟨g,0,none⟩)) (hy : a.eval y = .agg cs.toArray)
    (t : TypeId) (old : List Value) (hg : Blk w g t old) (hi : (P.info? ty).map (·.size) = some cs.length) (hold : old.length = cs.length) (h1 : ∀ u ∈ cs,u.oneCell' = true)
    (h : ∀ w',Blk w' g t cs → w.grownBy w' (some g) → w'.heap.size = w.heap.size → wpList P ops Q rest (a.put o.dst undef) w') : wpList P ops Q (o :: rest) a w :=
  wpList_store_row hgd ty x y ho g cs.toArray hx hy t old.toArray hg (by simpa using hi) (by simpa using hold) (all_oneCell_toArray h1)
    (h _ (setRow_heap w g _ _ t _ hg) ⟨rfl,rfl,rfl,by simp,fun i _ hne => setRow_other w g i _ (by intro e;exact hne (by rw [e]))⟩ (by simp))
def wordV (n : Nat) : Value:=.int .u32 (n : Int)
def natV (n : Nat) : Value:=.int .i64 (n : Int)
theorem l1 (n : Nat) : natV n = .int .i64 (n : Int):=rfl
theorem j4 {a b : Bool} (h : a = b) : Ending.returned (.bool a) = Ending.returned (.bool b):=by rw [h]
theorem jS {x : Int} (h : (Lit.int .u32 x).wf = true) : ∃ n : Nat,x = (n : Int) ∧ n < 4294967296:=by
  have:=jU x h
  exact ⟨x.toNat,by omega,by omega⟩
theorem jH {x : Int} (h : (Lit.int .i64 x).wf = true) : -9223372036854775808 ≤ x ∧ x ≤ 9223372036854775807:=by
  simp [Lit.wf,IntKind.min,IntKind.max,IntKind.bits,IntKind.signed] at h;omega
theorem l3 : (Try.prog.info? 3).map (fun i => (i.zero,i.size,i.bytes)) = some (some (.int .i64 0),1,8):=by kernel_rfl
theorem Row.turned {α : Type} {f : α → Value} {w w' : World} {B n g : Nat} {A : Option Addr} {l : List α} (h : Row f w B A n l) (hg : w.grownBy w' (some g)) (hB : B ≤ w.heap.size) (hBg : B ≤ g) : Row f w' B A n l :=
  h.keep fun p hp => World.cell?_of_block (w:=w) (hg.block p.block (by omega) (by intro e;cases e;omega))
end Go.Proofs.Ytoekiejipdabmaa
namespace Go.Proofs.Ytoekiejipdabmaa
open Go.ChangeShapes Go.WideShapes Go.RowKit Go.Deep
section
variable {H : Type} {enc : TypeId × Value → H} {P : Program} {w : World} {base : Nat} {held : Bool}
end
end Go.Proofs.Ytoekiejipdabmaa
namespace Go.Proofs.Ytoekiejipdabmaa
open Go.ChangeShapes Go.WideShapes Go.RowKit Go.Deep
structure Recs {α : Type} (sz : Nat) (f : α → Nat → Value) (w : World) (B : Nat) (A : Option Addr) (n : Nat) (l : List α) : Prop where
  len : l.length = n
  cells : 0 < n → ∃ ad,A = some ad ∧ ad.block < B ∧ ∀ k x,l[k]? = some x → ∀ j,j < sz → w.cell? (ad.add (k * sz + j)) = some (f x j)
section
variable {α : Type} {sz : Nat} {f : α → Nat → Value} {w w' : World} {B B' : Nat} {A : Option Addr} {n : Nat} {l : List α}
theorem Recs.get (h : Recs sz f w B A n l) {k : Nat} (hk : k < n) : ∃ ad x,A = some ad ∧ ad.block < B ∧ l[k]? = some x ∧ ∀ j,j < sz → w.cell? (ad.add (k * sz + j)) = some (f x j):=by
  obtain ⟨ad,e,hb,hc⟩:=h.cells (by omega)
  have hl : k < l.length:=by rw [h.len];exact hk
  exact ⟨ad,l[k],e,hb,List.getElem?_eq_getElem hl,hc k _ (List.getElem?_eq_getElem hl)⟩
theorem jX (a : Addr) (k j : Nat) (hj : j ≠ 0) : a.add (k + j) = ⟨(a.add k).block,(a.add k).off + j,none⟩:=by
  rw [← add_add]
  generalize a.add k = b
  unfold Addr.add
  rw [if_neg hj]
theorem Recs.field (h : Recs sz f w B A n l) {k : Nat} (hk : k < n) : ∃ ad x,A = some ad ∧ ad.block < B ∧ l[k]? = some x ∧ (0 < sz → w.cell? (ad.add (k * sz)) = some (f x 0)) ∧
    ∀ j,j ≠ 0 → j < sz → w.cell? ⟨(ad.add (k * sz)).block,(ad.add (k * sz)).off + j,none⟩ = some (f x j):=by
  obtain ⟨ad,x,e,hb,hx,hc⟩:=h.get hk
  exact ⟨ad,x,e,hb,hx,fun h0 => hc 0 h0,fun j hj hlt => by rw [← jX _ _ _ hj];exact hc j hlt⟩
theorem Recs.keep (h : Recs sz f w B A n l) (hk : ∀ p : Addr,p.block < B → w'.cell? p = w.cell? p) : Recs sz f w' B A n l :=
  ⟨h.len,fun hn => by
    obtain ⟨ad,e,hb,hc⟩:=h.cells hn
    exact ⟨ad,e,hb,fun k x hx j hj => (hk _ (by rw [add_block];exact hb)).trans (hc k x hx j hj)⟩⟩
theorem Recs.below (h : Recs sz f w B A n l) (hb : Below B w w') : Recs sz f w' B A n l:=h.keep fun _ hp => hb.cell hp
theorem Recs.more (h : Recs sz f w B A n l) (hB : B ≤ B') : Recs sz f w B' A n l :=
  ⟨h.len,fun hn => by obtain ⟨ad,e,hb,hc⟩:=h.cells hn;exact ⟨ad,e,by omega,hc⟩⟩
end
section
variable {H : Type} {enc : TypeId × Value → H} {P : Program} {w : World} {base : Nat} {held : Bool}
theorem jJ {t : TypeId} {k : IntKind} {v : Value} {fuel : Nat} {y : DataW H × List MemPlace} (ht : P.underlying t = some (.int k)) (h : DataW.trod enc P w base (fun _ => true) held fuel t [v] = some y) : ∃ n : Int,v = .int k n ∧ (Lit.int k n).wf = true:=by
  obtain ⟨n,hn,_,hw⟩:=DataW.trod_int ht h
  simp at hn
  exact ⟨n,hn,hw⟩
end
end Go.Proofs.Ytoekiejipdabmaa
namespace Go.Proofs.Ytoekiejipdabmaa
open Go.ChangeShapes Go.WideShapes Go.RowKit Go.Deep
structure Nd where
  kind : Int
  arg : Int
  next : Int
  alt : Int
instance : Inhabited Nd:=⟨⟨0,0,0,0⟩⟩
def ndV (x : Nd) : Nat → Value
  | 0 => .int .i64 x.kind
  | 1 => .int .i64 x.arg
  | 2 => .int .i64 x.next
  | _ => .int .i64 x.alt
def I64 (x : Int) : Prop:=-9223372036854775808 ≤ x ∧ x ≤ 9223372036854775807
structure Nd.Ok (x : Nd) : Prop where
  kind : I64 x.kind
  arg : I64 x.arg
  next : I64 x.next
  alt : I64 x.alt
def ndA (x : Nd) : Value:=.agg #[.int .i64 x.kind,.int .i64 x.arg,.int .i64 x.next,.int .i64 x.alt]
def Nodes (w : World) (B : Nat) (A : Option Addr) (n : Nat) (l : List Nd) : Prop:=Recs 4 ndV w B A n l ∧ ∀ x ∈ l,x.Ok
theorem Nodes.keep {w w' : World} {B : Nat} {A : Option Addr} {n : Nat} {l : List Nd} (h : Nodes w B A n l) (hk : ∀ p : Addr,p.block < B → w'.cell? p = w.cell? p) : Nodes w' B A n l:=⟨h.1.keep hk,h.2⟩
theorem Nodes.get {w : World} {B : Nat} {A : Option Addr} {n : Nat} {l : List Nd} (h : Nodes w B A n l) {k : Nat} (hk : k < n) :
    ∃ ad x,A = some ad ∧ ad.block < B ∧ l[k]? = some x ∧ x.Ok ∧ w.cell? (ad.add (k * 4)) = some (.int .i64 x.kind) ∧ w.cell? ⟨(ad.add (k * 4)).block,(ad.add (k * 4)).off + 1,none⟩ = some (.int .i64 x.arg) ∧
      w.cell? ⟨(ad.add (k * 4)).block,(ad.add (k * 4)).off + 2,none⟩ = some (.int .i64 x.next) ∧ w.cell? ⟨(ad.add (k * 4)).block,(ad.add (k * 4)).off + 3,none⟩ = some (.int .i64 x.alt):=by
  obtain ⟨ad,x,e,hb,hx,hc0,hc⟩:=h.1.field hk
  exact ⟨ad,x,e,hb,hx,h.2 x (List.mem_of_getElem? hx),hc0 (by omega),hc 1 (by omega) (by omega),hc 2 (by omega) (by omega),hc 3 (by omega) (by omega)⟩
structure Fn where
  A : Option Addr
  len : Nat
  cap : Nat
  nodes : List Nd
instance : Inhabited Fn:=⟨⟨none,0,0,[]⟩⟩
def fnV (f : Fn) : Value:=.slice f.A f.len f.cap
structure Fn.Ok (f : Fn) (w : World) (B : Nat) : Prop where
  nodes : Nodes w B f.A f.len f.nodes
  lc : f.len ≤ f.cap
  cm : f.cap ≤ maxLen
  nil : f.A = none → f.cap = 0
structure Pg where
  g : Int
  l : Int
  s : Int
  A : Option Addr
  len : Nat
  cap : Nat
  fns : List Fn
def pgA (p : Pg) : Value:=.agg #[.int .i64 p.g,.int .i64 p.l,.int .i64 p.s,.slice p.A p.len p.cap]
def pgC (p : Pg) : List Value:=[.int .i64 p.g,.int .i64 p.l,.int .i64 p.s,.slice p.A p.len p.cap]
structure Pg.Ok (p : Pg) (w : World) (B : Nat) : Prop where
  g : I64 p.g
  l : I64 p.l
  s : I64 p.s
  row : Row fnV w B p.A p.len p.fns
  fns : ∀ f ∈ p.fns,f.Ok w B
  lc : p.len ≤ p.cap
  cm : p.cap ≤ maxLen
  nil : p.A = none → p.cap = 0
theorem Fn.Ok.keep {f : Fn} {w w' : World} {B : Nat} (h : f.Ok w B) (hk : ∀ p : Addr,p.block < B → w'.cell? p = w.cell? p) : f.Ok w' B:=⟨h.nodes.keep hk,h.lc,h.cm,h.nil⟩
theorem Pg.Ok.keep {p : Pg} {w w' : World} {B : Nat} (h : p.Ok w B) (hk : ∀ p : Addr,p.block < B → w'.cell? p = w.cell? p) : p.Ok w' B :=
  ⟨h.g,h.l,h.s,h.row.keep hk,fun f hf => (h.fns f hf).keep hk,h.lc,h.cm,h.nil⟩
theorem Pg.Ok.below {p : Pg} {w w' : World} {B : Nat} (h : p.Ok w B) (hb : Below B w w') : p.Ok w' B:=h.keep fun _ hp => hb.cell hp
theorem Pg.Ok.fn {p : Pg} {w : World} {B : Nat} (h : p.Ok w B) {k : Nat} (hk : k < p.len) :
    ∃ ad f,p.A = some ad ∧ ad.block < B ∧ p.fns[k]? = some f ∧ f.Ok w B ∧ w.cell? (ad.add k) = some (.slice f.A f.len f.cap):=by
  obtain ⟨ad,f,e,hb,hx,hc⟩:=h.row.get hk
  exact ⟨ad,f,e,hb,hx,h.fns f (List.mem_of_getElem? hx),hc⟩
section
variable {H : Type} {enc : TypeId × Value → H} {P : Program} {w : World} {base : Nat} {held : Bool}
theorem jV {t : TypeId} {f0 f1 f2 f3 : Field} {r : Reach} {b0 : Nat} {v : Value} {d : DataW H} {ps : List MemPlace} (ht : P.underlying t = some (.struct #[f0,f1,f2,f3])) (hone : oneCellFields P #[f0,f1,f2,f3] = true)
    (h0 : P.underlying f0.type = some (.int .i64)) (h1 : P.underlying f1.type = some (.int .i64)) (h2 : P.underlying f2.type = some (.int .i64)) (h3 : P.underlying f3.type = some (.int .i64)) (hC : P.cellsOf t = 4)
    (hval : Value.okWide P w r b0 t v) (h : DataW.Trod enc P w base (fun _ => true) held t v d ps) : ∃ x : Nd,v = ndA x ∧ x.Ok:=by
  obtain ⟨cs,rfl,_⟩:=okWide_struct ht hval
  obtain ⟨fuel,hf⟩:=h
  rw [show (Value.agg cs).cells = cs from rfl] at hf
  obtain ⟨xs,k,_,_,hlen,hxl,hfl⟩:=DataW.trod_struct ht hf
  have hfield : ∀ (j : Nat) (fl : Field),(#[f0,f1,f2,f3] : Array Field)[j]? = some fl → ∃ y,DataW.trod enc P w base (fun _ => true) held k fl.type ((cs.toList.drop j).take 1) = some y:=by
    intro j fl hj
    have hlt : j < 4:=(Array.getElem?_eq_some_iff.1 hj).1
    obtain ⟨ho,hc⟩:=hone_of hone j fl hj
    have g:=hfl j fl hj
    rw [ho,hc,List.getElem?_eq_getElem (by rw [hxl];exact hlt)] at g
    exact ⟨_,g⟩
  rw [hC] at hlen
  obtain ⟨cl,hcl⟩ : ∃ cl,cs.toList = cl:=⟨_,rfl⟩
  rw [hcl] at hfield hlen
  have hcs : cs = cl.toArray:=by rw [← hcl]
  subst hcs
  clear hf hfl hcl
  match cl,hlen,hfield with
  | [v0,v1,v2,v3],_,hfield =>
    obtain ⟨_,g0⟩:=hfield 0 f0 rfl
    obtain ⟨_,g1⟩:=hfield 1 f1 rfl
    obtain ⟨_,g2⟩:=hfield 2 f2 rfl
    obtain ⟨_,g3⟩:=hfield 3 f3 rfl
    simp only [List.drop_succ_cons,List.drop_zero,List.take_succ_cons,List.take_zero] at g0 g1 g2 g3
    obtain ⟨n0,rfl,w0⟩:=jJ h0 g0
    obtain ⟨n1,rfl,w1⟩:=jJ h1 g1
    obtain ⟨n2,rfl,w2⟩:=jJ h2 g2
    obtain ⟨n3,rfl,w3⟩:=jJ h3 g3
    exact ⟨⟨n0,n1,n2,n3⟩,rfl,jH w0,jH w1,jH w2,jH w3⟩
end
end Go.Proofs.Ytoekiejipdabmaa
namespace Go.Proofs.Ytoekiejipdabmaa
open Go.RowKit
namespace Ma
def behind (n : Nd) (h ex : Nat) (lost : Int) (b : Bool) : Nat :=
  if n.kind = 5 then (if (b || S.has h n.alt) = true then h ||| S.one lost else h) ||| S.one n.alt
  else if n.kind = 6 then h &&& (4294967295 - S.one n.arg)
  else if n.kind = 7 then ex
  else h
theorem jR {a b k : Nat} (hb : b < 4294967296) (hk : k < 32) : (a &&& (4294967295 - b)).testBit k = (a.testBit k && !b.testBit k):=by
  rw [Nat.testBit_and]
  have e : 4294967295 - b = 2 ^ 32 - (b + 1):=by omega
  rw [e,Nat.testBit_two_pow_sub_succ (by omega),decide_eq_true hk,Bool.true_and]
theorem jO (a : Int) {k : Nat} (hk : k < 32) : (S.one a).testBit k = ((k : Int) == a):=by
  unfold S.one
  split
  · rename_i h
    rw [Nat.testBit_two_pow,Bool.eq_iff_iff,decide_eq_true_eq]
    simp
    omega
  · rename_i h
    symm
    simp
    omega
theorem behind_bit {n : Nd} {h ex k : Nat} {lost : Int} {b : Bool} (hk : k < 32) : (behind n h ex lost b).testBit k =
    if n.kind = 5 then h.testBit k || ((k : Int) == n.alt) || (((k : Int) == lost) && (b || S.has h n.alt)) else if n.kind = 6 then h.testBit k && ((k : Int) != n.arg) else if n.kind = 7 then ex.testBit k else h.testBit k:=by
  unfold behind
  split
  · rw [Nat.testBit_or,jO _ hk]
    cases hc : (b || S.has h n.alt) with
    | true => rw [if_pos rfl,Nat.testBit_or,jO _ hk,Bool.and_true,Bool.or_assoc,Bool.or_assoc,Bool.or_comm ((k : Int) == lost)]
    | false => rw [if_neg (by simp),Bool.and_false,Bool.or_false]
  · split
    · rw [jR (S.one_lt _) hk,jO _ hk];rfl
    · split <;> rfl
theorem behind_lt {n : Nd} {h ex : Nat} {lost : Int} {b : Bool} (hh : h < 4294967296) (he : ex < 4294967296) : behind n h ex lost b < 4294967296:=by
  unfold behind
  split
  · refine Nat.or_lt_two_pow (n:=32) ?_ (S.one_lt _)
    split
    · exact Nat.or_lt_two_pow (n:=32) hh (S.one_lt _)
    · exact hh
  · split
    · exact Nat.lt_of_le_of_lt Nat.and_le_left hh
    · split
      · exact he
      · exact hh
end Ma
end Go.Proofs.Ytoekiejipdabmaa
namespace Go.Proofs.Ytoekiejipdabmaa.Q
def rows : List (List Nat):=[[45,110,45],[103,110,45],[103,110,45],[108,110,45],[108,110,45],[102,110,115],[115,110,45],[102,110,45],[45,110,110],[45,45,45]]
def row (k : Int) : List Nat:=if k < 0 ∨ 9 < k then [] else rows.getD k.toNat []
def size (g l s f : Int) (c : Nat) (nodes : Int) : Int:=if c = 103 then g else if c = 108 then l else if c = 115 then s else if c = 102 then f else if c = 110 then max nodes 1 else 1
def fields (x : Nd) : List Int:=[x.arg,x.next,x.alt]
def may (g l s f : Int) (x : Nd) (nodes : Int) : Bool:=decide (row x.kind ≠ []) && (List.range 3).all fun i => decide (0 ≤ (fields x).getD i 0 ∧ (fields x).getD i 0 < size g l s f ((row x.kind).getD i 0) nodes)
def calls (p : Pg) (x y : Nat) : Prop:=∃ f,p.fns[x]? = some f ∧ ∃ nd ∈ f.nodes,nd.kind = 7 ∧ nd.arg = (y : Int)
def Same (p q : Pg) : Prop:=p.g = q.g ∧ p.l = q.l ∧ p.s = q.s ∧ p.fns.map (·.nodes) = q.fns.map (·.nodes)
theorem Same.len {p q : Pg} (h : Same p q) : p.fns.length = q.fns.length:=by have:=congrArg List.length h.2.2.2;simpa using this
end Go.Proofs.Ytoekiejipdabmaa.Q
namespace Go.Proofs.Ytoekiejipdabmaa
open Go.RowKit
theorem j2 {P : Program} {ops : Array Oper} {rest : List Oper} {o : Oper} {a : Act} {w : World} {Q : Exit → Act → World → Prop} (hgd : o.guard = none) (ty : TypeId) (ho : o.op = .alloc ty)
    (cs : List Value) (hz : (P.info? ty).map (·.zero) = some (some (.agg cs.toArray)))
    (h : ∀ g w',w.heap.size ≤ g → Blk w' g ty cs → Below w.heap.size w w' → wpList P ops Q rest (a.put o.dst (.pointer (some ⟨g,0,none⟩))) w') : wpList P ops Q (o :: rest) a w:=by
  refine wpList_plain hgd fun K hK => ?_
  cases hq : P.info? ty with
  | none => simp [hq] at hz
  | some i =>
    have hz' : i.zero = some (.agg cs.toArray):=by simpa [hq] using hz
    unfold Oper.wp
    simp [execOp,ho,Instr.alloc,zeroValue,typeInfo,hq,hz',newVar,newRow,Value.cells,Result.andThen]
    exact hK _ _ (h _ _ (Nat.le_refl _) (Blk.newAt rfl rfl) ((Below.refl _ _).alloc (Nat.le_refl _) _))
theorem j0 {P : Program} {ops : Array Oper} {rest : List Oper} {o : Oper} {a : Act} {w : World} {Q : Exit → Act → World → Prop} (hgd : o.guard = none) (ty : TypeId) (x : Operand) (ho : o.op = .box ty x)
    (cs : List Value) (hx : a.eval x = .agg cs.toArray)
    (h : ∀ g w',w.heap.size ≤ g → Blk w' g ty cs → Below w.heap.size w w' → wpList P ops Q rest (a.put o.dst (.pointer (some ⟨g,0,none⟩))) w') : wpList P ops Q (o :: rest) a w:=by
  refine wpList_plain hgd fun K hK => ?_
  unfold Oper.wp
  simp [execOp,ho,hx,Instr.box,newVar,newRow,Value.cells,Result.andThen]
  exact hK _ _ (h _ _ (Nat.le_refl _) (Blk.newAt rfl rfl) ((Below.refl _ _).alloc (Nat.le_refl _) _))
theorem l8 (p : Pg) : pgA p = .agg (pgC p).toArray:=rfl
def ndC (x : Nd) : List Value:=[.int .i64 x.kind,.int .i64 x.arg,.int .i64 x.next,.int .i64 x.alt]
theorem l0 {w : World} {g : Nat} {t : TypeId} {p : Pg} (h : Blk w g t (pgC p)) :
    w.cell? ⟨g,0,none⟩ = some (.int .i64 p.g) ∧ w.cell? ⟨g,1,none⟩ = some (.int .i64 p.l) ∧ w.cell? ⟨g,2,none⟩ = some (.int .i64 p.s) ∧ w.cell? ⟨g,3,none⟩ = some (.slice p.A p.len p.cap) :=
  ⟨Blk.cell h 0,Blk.cell h 1,Blk.cell h 2,Blk.cell h 3⟩
theorem j6 {w : World} {g : Nat} {t : TypeId} {x : Nd} (h : Blk w g t (ndC x)) :
    w.cell? ⟨g,0,none⟩ = some (.int .i64 x.kind) ∧ w.cell? ⟨g,1,none⟩ = some (.int .i64 x.arg) ∧ w.cell? ⟨g,2,none⟩ = some (.int .i64 x.next) ∧ w.cell? ⟨g,3,none⟩ = some (.int .i64 x.alt) :=
  ⟨Blk.cell h 0,Blk.cell h 1,Blk.cell h 2,Blk.cell h 3⟩
end Go.Proofs.Ytoekiejipdabmaa
namespace Go.Proofs.Ytoekiejipdabmaa.S
def rest (m : Nat) : Nat:=m &&& (m - 1)
theorem has_one (m : Nat) (id : Int) : has m id = decide ((m &&& one id) ≠ 0):=by
  by_cases h : 0 ≤ id ∧ id ≤ 31
  · obtain ⟨n,rfl⟩ : ∃ n : Nat,id = (n : Int):=⟨id.toNat,by omega⟩
    have hn : n ≤ 31:=by omega
    rw [has_in m n hn,one_nat n hn,Bool.eq_iff_iff,decide_eq_true_iff]
    constructor
    · intro h1 h2
      have:=congrArg (·.testBit n) h2
      simp [Nat.testBit_and,h1] at this
    · intro h1
      cases h2 : m.testBit n
      · exfalso
        apply h1
        apply Nat.eq_of_testBit_eq
        intro i
        rw [Nat.testBit_and,Nat.testBit_two_pow,Nat.zero_testBit]
        by_cases hi : n = i
        · subst hi;rw [h2];rfl
        · rw [decide_eq_false hi,Bool.and_false]
      · rfl
  · rw [has_out m id (by omega),one_out id (by omega)];simp
end Go.Proofs.Ytoekiejipdabmaa.S
namespace Go.Proofs.Ytoekiejipdabmaa
open Go.RowKit
set_option maxRecDepth 100000 in
set_option maxHeartbeats 800000 in
theorem j9 (m : Nat) (hm : m < 4294967296) (id : Int) (hid : -9223372036854775808 ≤ id ∧ id ≤ 9223372036854775807) (b : Bool) (hb : S.has m id = b) (w : World) :
    Calls Try.prog 10 #[.int .u32 (m : Int),.int .i64 id] w fun e w' => e = .returned (.bool b) ∧ w = w':=by
  have HB:=kp hb
  obtain ⟨hid1,hid2⟩:=hid
  clear hb
  by_cases h : id < 0 ∨ 31 < id
  · have HF : Kept (false = b):=kp <| by rw [← HB.out,S.has_out m id h]
    by_cases h0 : id < 0
    · clear h
      go_enter Try.func10,Try.ntmps10
      go_wp2
      go_ret
      exact ⟨j4 HF.out,rfl⟩
    · have h1 : 31 < id:=h.resolve_left h0
      clear h
      go_enter Try.func10,Try.ntmps10
      go_wp2
      go_ret
      exact ⟨j4 HF.out,rfl⟩
  · obtain ⟨n,rfl⟩ : ∃ n : Nat,id = (n : Int):=⟨id.toNat,by omega⟩
    have hn : n ≤ 31:=by omega
    have HT : Kept (decide (m / 2 ^ n % 2 = 1) = b):=kp <| by rw [← HB.out,S.has_in m n hn,S.bit_div]
    clear h hid1 hid2
    go_enter Try.func10,Try.ntmps10
    go_wp2
    go_loop [5,6] (fun v5 v6 => ∃ k : Nat,k ≤ n ∧ v6 = .int .i64 k ∧ v5 = .int .u64 ((m / 2 ^ k : Nat) : Int)) (fun _ v6 => n - (intOf v6).toNat)
    case atStart => exact ⟨0,by omega,rfl,by simp⟩
    case round =>
      obtain ⟨k,hk,rfl,rfl⟩:=hrel
      have hle : m / 2 ^ k ≤ m:=Nat.div_le_self _ _
      have HN : Kept (m / 2 ^ k / 2 = m / 2 ^ (k + 1)):=kp <| by rw [Nat.div_div_eq_div_mul,Nat.pow_succ]
      by_cases hlt : k < n
      · generalize m / 2 ^ k = q at *
        go_wp2
        go_round
        case rel => exact ⟨k + 1,by omega,by go_num,by rw [← HN.out];go_num⟩
        case measure => simp [intOf];omega
      · have HQ : Kept (decide (m / 2 ^ k % 2 = 1) = b):=kp <| by rw [show k = n by omega];exact HT.out
        generalize m / 2 ^ k = q at *
        go_wp2
        go_ret
        refine ⟨j4 ?_,rfl⟩
        rw [← HQ.out,Bool.eq_iff_iff]
        simp
        omega
theorem jL (k : Nat) (h : k ≤ 31) : 2 ^ k ≤ 2147483648:=Nat.pow_le_pow_right (by decide) h
set_option maxRecDepth 100000 in
set_option maxHeartbeats 800000 in
theorem jB (B : Nat) (A : Option Addr) (n c : Nat) (l : List Nat) (w : World) (hr : Row natV w B A n l) (hl : ∀ x ∈ l,x ≤ 31) (hn : n ≤ 100000) (m : Nat) (hm : S.mask l % 4294967296 = m) :
    Calls Try.prog 7 #[.slice A n c] w fun e w' => e = .returned (.int .u32 (m : Int)) ∧ w = w':=by
  have HR:=kp hr;have HL:=kp hl;have HMm:=kp hm
  clear hr hl hm
  go_enter Try.func7,Try.ntmps7
  go_wp2
  go_loop [3,4] (fun v3 v4 => ∃ k : Nat,k ≤ n ∧ v4 = .int .i64 k ∧ v3 = .int .u64 ((S.mask (l.take k) : Nat) : Int)) (fun _ v4 => n - (intOf v4).toNat)
  case atStart => exact ⟨0,by omega,rfl,rfl⟩
  case round =>
    obtain ⟨k,hk,rfl,rfl⟩:=hrel
    have hle : S.mask (l.take k) ≤ 214748364800000:=by
      have h1:=S.mask_le (l.take k) fun x hx => HL.out x (List.mem_of_mem_take hx)
      have h2 : (l.take k).length ≤ k:=List.length_take_le _ _
      have h3 : (l.take k).length * 2147483648 ≤ 100000 * 2147483648:=Nat.mul_le_mul_right _ (by omega)
      omega
    by_cases hlt : k < n
    · obtain ⟨ad,x,rfl,hab,hx,hc⟩:=HR.out.get hlt
      rw [l1] at hc
      have hx31:=HL.out x (List.mem_of_getElem? hx)
      have HN : Kept (S.mask (l.take (k + 1)) = S.mask (l.take k) + 2 ^ x):=kp <| by rw [List.take_add_one,hx];exact S.mask_snoc _ _
      have hp:=jL x hx31
      clear hx hab
      generalize S.mask (l.take k) = q at *
      go_wp2
      go_loop [5,6] (fun v5 v6 => ∃ j : Nat,j ≤ x ∧ v6 = .int .i64 j ∧ v5 = .int .u64 ((2 ^ j : Nat) : Int)) (fun _ v6 => x - (intOf v6).toNat)
      case atStart => exact ⟨0,by omega,rfl,rfl⟩
      case round =>
        obtain ⟨j,hj,rfl,rfl⟩:=hrel
        have hp2:=jL j (by omega)
        have HP : Kept (2 ^ (j + 1) = 2 ^ j * 2):=kp <| Nat.pow_succ 2 j
        by_cases hjx : j < x
        · generalize 2 ^ j = p at *
          go_wp2
          go_round
          case rel => exact ⟨j + 1,by omega,by go_num,by rw [HP.out];go_num⟩
          case measure => simp [intOf];omega
        · have HE : Kept (2 ^ j = 2 ^ x):=kp <| by rw [show j = x by omega]
          generalize 2 ^ j = p at *
          go_wp2
          go_round
          case rel => exact ⟨k + 1,by omega,by go_num,by rw [HN.out,← HE.out];go_num⟩
          case measure => simp [intOf];omega
    · have HT : Kept (l.take k = l):=kp <| List.take_of_length_le (by rw [HR.out.len];omega)
      have HM : Kept (S.mask (l.take k) = S.mask l):=kp <| by rw [HT.out]
      have hge : n ≤ k:=by omega
      clear HT hlt
      generalize S.mask (l.take k) = q at *
      go_wp2
      go_ret
      exact ⟨jK (by rw [← HMm.out,← HM.out];omega),rfl⟩
theorem jZ (n : Nat) : (2 : Int) ^ n = ((2 ^ n : Nat) : Int):=(Int.natCast_pow 2 n).symm
theorem l5 (x : Nat) : (((x : Nat) : Int) != 0) = decide (x ≠ 0):=by rw [Bool.eq_iff_iff];simp
set_option maxRecDepth 100000 in
set_option maxHeartbeats 800000 in
theorem jD (id : Int) (hid : -9223372036854775808 ≤ id ∧ id ≤ 9223372036854775807) (m : Nat) (hm : S.one id = m) (w : World) :
    Calls Try.prog 12 #[.int .i64 id] w fun e w' => e = .returned (.int .u32 (m : Int)) ∧ w = w':=by
  have HM:=kp hm;clear hm
  obtain ⟨hid1,hid2⟩:=hid
  by_cases h : id < 0
  · have HF : Kept (0 = m):=kp <| by rw [← HM.out,S.one_out id (.inl h)]
    go_enter Try.func12,Try.ntmps12
    go_wp2
    go_ret
    exact ⟨jK (by rw [← HF.out];rfl),rfl⟩
  · by_cases h2 : 31 < id
    · have HF : Kept (0 = m):=kp <| by rw [← HM.out,S.one_out id (.inr h2)]
      go_enter Try.func12,Try.ntmps12
      go_wp2
      go_ret
      exact ⟨jK (by rw [← HF.out];rfl),rfl⟩
    · obtain ⟨n,rfl⟩ : ∃ n : Nat,id = (n : Int):=⟨id.toNat,by omega⟩
      have hn : n ≤ 31:=by omega
      have HF : Kept (2 ^ n = m):=kp <| by rw [← HM.out,S.one_nat n hn]
      have hp:=jL n hn
      clear h h2 hid1 hid2
      go_enter Try.func12,Try.ntmps12
      go_wp2
      go_ret
      refine ⟨jK ?_,rfl⟩
      rw [← HF.out,jZ]
      generalize 2 ^ n = p at *
      omega
set_option maxRecDepth 100000 in
set_option maxHeartbeats 800000 in
theorem jT (m : Nat) (hm : m < 4294967296) (id : Int) (hid : -9223372036854775808 ≤ id ∧ id ≤ 9223372036854775807) (b : Bool) (hb : S.has m id = b) (w : World) :
    Calls Try.prog 11 #[.int .u32 (m : Int),.int .i64 id] w fun e w' => e = .returned (.bool b) ∧ w = w':=by
  have HB : Kept (decide ((m &&& S.one id) ≠ 0) = b):=kp <| by rw [← hb,S.has_one]
  have HI:=kp hid
  have ho:=S.one_lt id
  obtain ⟨o,he⟩ : ∃ o,S.one id = o:=⟨_,rfl⟩
  have HE:=kp he
  rw [he] at ho
  have HA : Kept (decide ((m &&& o) ≠ 0) = b):=kp <| by rw [← HE.out];exact HB.out
  have HBits : Kept (bits .and .u32 (m : Int) (o : Int) = ((m &&& o : Nat) : Int)):=kp <| u32_and_nat m o hm ho
  clear he hb hid
  go_enter Try.func11,Try.ntmps11
  go_wp2_with (go_at_call 12;go_must (refine (jD id HI.out o HE.out _).mono ?_);rintro e w' ⟨rfl,rfl⟩)
  go_ret
  refine ⟨j4 ?_,rfl⟩
  rw [← HA.out]
  rw [HBits.out,l5]
end Go.Proofs.Ytoekiejipdabmaa
