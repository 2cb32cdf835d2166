/- Math1, SetMath, SetMath2, WireMath, WireMath2, Arr, Arr2, Slice, Own, Held, Walk1, Walk2, Walk3. -/
import Derived.WalkKit
import Derived.Test.YtcbfghcdbmlneaaPk1
import Derived.Laws.CopyOwn
import Derived.Laws.MakeOwn
import Derived.Laws.Slices
import Derived.Test.YtcbfghcdbmlneaaRows
namespace Go.Proofs.Ytcbfghcdbmlneaa.V
def size (n : Nat) : Nat:=if n < 128 then 1 else if n < 16384 then 2 else if n < 2097152 then 3 else if n < 268435456 then 4 else 5
theorem size_le (n : Nat) : size n ≤ 5:=by unfold size;split <;> (try split) <;> (try split) <;> (try split) <;> omega
theorem size_pos (n : Nat) : 1 ≤ size n:=by unfold size;split <;> (try split) <;> (try split) <;> (try split) <;> omega
def left (n k : Nat) : Nat:=n / 128 ^ k
theorem left_zero (n : Nat) : left n 0 = n:=by simp [left]
theorem left_succ (n k : Nat) : left n (k + 1) = left n k / 128:=by
  unfold left;rw [Nat.pow_succ,Nat.div_div_eq_div_mul]
theorem left_lt (n k : Nat) (h : n < 4294967296) : left n k < 4294967296:=Nat.lt_of_le_of_lt (Nat.div_le_self _ _) h
theorem size_at (n k : Nat) (hk : k < 5) (hn : n < 4294967296) (h : k = 0 ∨ left n k ≠ 0) (h1 : left n k / 128 = 0) : size n = k + 1:=by
  unfold left at h h1
  unfold size
  match k,hk with
  | 0,_ => simp at *;(repeat' split) <;> omega
  | 1,_ => simp at *;(repeat' split) <;> omega
  | 2,_ => simp at *;(repeat' split) <;> omega
  | 3,_ => simp at *;(repeat' split) <;> omega
  | 4,_ => simp at *;(repeat' split) <;> omega
theorem left_five (n : Nat) (hn : n < 4294967296) : left n 5 = 0:=by
  unfold left;simp;omega
def go : Nat → Nat → List Nat → Nat × Nat × Nat
  | _,_,[] => (0,0,2)
  | k,acc,x :: r =>
    if k = 4 ∧ 15 < x then (0,0,4) else if 0 < k ∧ x = 0 then (0,0,3)
    else if x < 128 then (acc + x * 128 ^ k,k + 1,0) else go (k + 1) (acc + (x - 128) * 128 ^ k) r
theorem go_nil (k acc : Nat) : go k acc [] = (0,0,2):=by unfold go;rfl
theorem go_long (k acc x : Nat) (r : List Nat) (h : k = 4 ∧ 15 < x) : go k acc (x :: r) = (0,0,4):=by
  rw [go,if_pos h]
theorem go_form (k acc x : Nat) (r : List Nat) (h : ¬ (k = 4 ∧ 15 < x)) (h1 : 0 < k ∧ x = 0) : go k acc (x :: r) = (0,0,3):=by
  rw [go,if_neg h,if_pos h1]
theorem go_last (k acc x : Nat) (r : List Nat) (h : ¬ (k = 4 ∧ 15 < x)) (h1 : ¬ (0 < k ∧ x = 0)) (h2 : x < 128) : go k acc (x :: r) = (acc + x * 128 ^ k,k + 1,0):=by
  rw [go,if_neg h,if_neg h1,if_pos h2]
theorem go_on (k acc x : Nat) (r : List Nat) (h : ¬ (k = 4 ∧ 15 < x)) (h2 : ¬ x < 128) : go k acc (x :: r) = go (k + 1) (acc + (x - 128) * 128 ^ k) r:=by
  rw [go,if_neg h,if_neg (by omega),if_neg h2]
theorem pow_at (k : Nat) (hk : k ≤ 4) : (k ≤ 3 ∧ 128 ^ k ≤ 2097152) ∨ (k = 4 ∧ 128 ^ k = 268435456):=by
  rcases (by omega : k = 0 ∨ k = 1 ∨ k = 2 ∨ k = 3 ∨ k = 4) with rfl | rfl | rfl | rfl | rfl
  · exact .inl ⟨by omega,by decide⟩
  · exact .inl ⟨by omega,by decide⟩
  · exact .inl ⟨by omega,by decide⟩
  · exact .inl ⟨by omega,by decide⟩
  · exact .inr ⟨rfl,by decide⟩
theorem pow_le (k : Nat) (hk : k ≤ 4) : 128 ^ k ≤ 268435456:=by rcases pow_at k hk with ⟨_,h⟩ | ⟨_,h⟩ <;> omega
theorem part_lt (k x : Nat) (hk : k ≤ 4) (hx : x < 256) (h4 : ¬ (k = 4 ∧ 15 < x)) : x % 128 * 128 ^ k < 4294967296:=by
  rcases pow_at k hk with ⟨h3,h⟩ | ⟨h3,h⟩
  · have:=Nat.mul_le_mul (by omega : x % 128 ≤ 127) h
    omega
  · rw [h];omega
theorem or_step (k acc x : Nat) (hk : k ≤ 4) (ha : acc < 128 ^ k) (hx : x < 256) (h4 : ¬ (k = 4 ∧ 15 < x)) :
    bits .or .u32 (acc : Int) ((x : Int) % 128 * 2 ^ (7 * k) % 4294967296) = ((acc + x % 128 * 128 ^ k : Nat) : Int):=by
  have hp:=pow_le k hk
  have h2 : (2 : Nat) ^ (7 * k) = 128 ^ k:=by rw [Nat.pow_mul]
  have hlt:=part_lt k x hk hx h4
  have e : (x : Int) % 128 * 2 ^ (7 * k) % 4294967296 = ((x % 128 * 128 ^ k : Nat) : Int):=by
    rw [← h2] at hlt ⊢
    have e1 : (x : Int) % 128 * 2 ^ (7 * k) = ((x % 128 * 2 ^ (7 * k) : Nat) : Int):=by rw [Int.natCast_mul,Int.natCast_emod,Int.natCast_pow];rfl
    rw [e1]
    exact Int.emod_eq_of_lt (Int.natCast_nonneg _) (Int.ofNat_lt.2 hlt)
  rw [e,u32_or_nat _ _ (by omega) hlt,← h2,Nat.mul_comm (x % 128),Nat.or_comm,← Nat.two_pow_add_eq_or_of_lt (by rw [h2];exact ha)]
  congr 1;omega
theorem acc_step (k acc x : Nat) (ha : acc < 128 ^ k) : acc + x % 128 * 128 ^ k < 128 ^ (k + 1):=by
  have h : x % 128 * 128 ^ k ≤ 127 * 128 ^ k:=Nat.mul_le_mul_right _ (by omega)
  rw [Nat.pow_succ];omega
def get (l : List Nat) : Nat × Nat × Nat:=go 0 0 l
def put (n : Nat) : List Nat:=if n < 128 then [n] else (n % 128 + 128) :: put (n / 128)
  termination_by n
  decreasing_by omega
theorem put_last (n : Nat) (h : n < 128) : put n = [n]:=by rw [put,if_pos h]
theorem put_on (n : Nat) (h : ¬ n < 128) : put n = (n % 128 + 128) :: put (n / 128):=by rw [put,if_neg h]
theorem size_last (n : Nat) (h : n < 128) : size n = 1:=by unfold size;rw [if_pos h]
theorem size_on (n : Nat) (h : ¬ n < 128) (hn : n < 4294967296) : size n = 1 + size (n / 128):=by
  unfold size;(repeat' split) <;> omega
theorem five (n : Nat) (hn : n < 4294967296) : n < 128 ^ 5:=by
  have h : (128 : Nat) ^ 5 = 34359738368:=by decide
  omega
theorem put_len : ∀ (k n : Nat),n < 128 ^ k → n < 4294967296 → (put n).length = size n
  | 0,n,h,_ => by simp at h;subst h;rw [put_last _ (by omega),size_last _ (by omega)];rfl
  | k + 1,n,h,hn => by
    by_cases h1 : n < 128
    · rw [put_last _ h1,size_last _ h1];rfl
    · rw [put_on _ h1,size_on _ h1 hn,List.length_cons,put_len k (n / 128) (by rw [Nat.pow_succ] at h;omega) (by omega)];omega
theorem len_put (n : Nat) (hn : n < 4294967296) : (put n).length = size n:=put_len 5 n (five n hn) hn
theorem X7 : ∀ (k n : Nat),n < 128 ^ k → ∀ x ∈ put n,x < 256
  | 0,n,h,x,hx => by simp at h;subst h;rw [put_last _ (by omega)] at hx;simp at hx;omega
  | k + 1,n,h,x,hx => by
    by_cases h1 : n < 128
    · rw [put_last _ h1] at hx;simp at hx;omega
    · rw [put_on _ h1] at hx
      rcases List.mem_cons.1 hx with rfl | hx
      · omega
      · exact X7 k (n / 128) (by rw [Nat.pow_succ] at h;omega) x hx
theorem put_byte (n : Nat) (hn : n < 4294967296) : ∀ x ∈ put n,x < 256:=X7 5 n (five n hn)
def row (l : List Nat) : List Nat:=l.flatMap put
def sizes : List Nat → Nat
  | [] => 0
  | n :: r => size n + sizes r
theorem sizes_snoc (l : List Nat) (n : Nat) : sizes (l ++ [n]) = sizes l + size n:=by
  induction l with
  | nil => simp [sizes]
  | cons m r ih => simp [sizes,ih];omega
theorem row_snoc (l : List Nat) (n : Nat) : row (l ++ [n]) = row l ++ put n:=by simp [row]
theorem sizes_le (l : List Nat) : sizes l ≤ 5 * l.length:=by
  induction l with
  | nil => simp [sizes]
  | cons n r ih => have:=size_le n;simp [sizes];omega
theorem row_len (l : List Nat) (h : ∀ n ∈ l,n < 4294967296) : (row l).length = sizes l:=by
  induction l with
  | nil => rfl
  | cons n r ih =>
    have h1:=ih fun x hx => h x (List.mem_cons_of_mem _ hx)
    have h2:=len_put n (h n (List.mem_cons_self))
    simp only [row,List.flatMap_cons,List.length_append,sizes] at *
    omega
theorem take_snoc {α : Type} (l : List α) (k : Nat) (x : α) (h : l[k]? = some x) : l.take (k + 1) = l.take k ++ [x]:=by
  rw [List.take_add_one,h];rfl
theorem go_small : ∀ (l : List Nat) (k acc : Nat),(∀ x ∈ l,x < 256) → k ≤ 4 → acc < 128 ^ k → (go k acc l).1 < 4294967296 ∧ (go k acc l).2.1 ≤ 5 ∧ (go k acc l).2.2 ≤ 4
  | [],k,acc,_,_,_ => by rw [go_nil];simp
  | x :: r,k,acc,hb,hk,ha => by
    have hx:=hb x (List.mem_cons_self)
    by_cases h : k = 4 ∧ 15 < x
    · rw [go_long _ _ _ _ h];simp
    · by_cases h1 : 0 < k ∧ x = 0
      · rw [go_form _ _ _ _ h h1];simp
      · by_cases h2 : x < 128
        · rw [go_last _ _ _ _ h h1 h2]
          refine ⟨?_,by simp;omega,by simp⟩
          rcases pow_at k hk with ⟨h3,hp⟩ | ⟨h3,hp⟩
          · have:=Nat.mul_le_mul (by omega : x ≤ 127) hp
            simp only;omega
          · simp only
            rw [hp] at ha ⊢
            omega
        · rw [go_on _ _ _ _ h h2]
          refine go_small r (k + 1) _ (fun y hy => hb y (List.mem_cons_of_mem _ hy)) (by omega) ?_
          have:=acc_step k acc x ha
          rwa [show x % 128 = x - 128 by omega] at this
theorem get_small (l : List Nat) (h : ∀ x ∈ l,x < 256) : (get l).1 < 4294967296 ∧ (get l).2.1 ≤ 5 ∧ (get l).2.2 ≤ 4:=go_small l 0 0 h (by omega) (by simp)
theorem go_once : ∀ (l : List Nat) (k acc : Nat),(∀ x ∈ l,x < 256) → k ≤ 4 → (go k acc l).2.2 = 0 →
    ∃ m,(go k acc l).1 = acc + m * 128 ^ k ∧ (go k acc l).2.1 = k + (put m).length ∧ (put m).length ≤ l.length ∧ put m = l.take (put m).length ∧ (0 < k → m ≠ 0)
  | [],k,acc,_,_,h0 => by rw [go_nil] at h0;simp at h0
  | x :: r,k,acc,hb,hk,h0 => by
    have hx:=hb x (List.mem_cons_self)
    by_cases h : k = 4 ∧ 15 < x
    · rw [go_long _ _ _ _ h] at h0;simp at h0
    · by_cases h1 : 0 < k ∧ x = 0
      · rw [go_form _ _ _ _ h h1] at h0;simp at h0
      · by_cases h2 : x < 128
        · rw [go_last _ _ _ _ h h1 h2]
          exact ⟨x,rfl,by rw [put_last x h2];rfl,by rw [put_last x h2];simp,by rw [put_last x h2];rfl,by omega⟩
        · rw [go_on _ _ _ _ h h2] at h0 ⊢
          obtain ⟨m,e1,e2,e3,e4,e5⟩:=go_once r (k + 1) _ (fun y hy => hb y (List.mem_cons_of_mem _ hy)) (by omega) h0
          have hm:=e5 (by omega)
          have hp : put (x - 128 + 128 * m) = x :: put m:=by
            rw [put_on _ (by omega)]
            congr 1
            · omega
            · congr 1;omega
          refine ⟨x - 128 + 128 * m,?_,?_,?_,?_,by omega⟩
          · rw [e1,Nat.pow_succ,Nat.add_mul,Nat.add_assoc]
            congr 2
            rw [Nat.mul_comm (128 ^ k) 128,← Nat.mul_assoc,Nat.mul_comm m 128]
          · rw [e2,hp];simp;omega
          · rw [hp];simp;omega
          · rw [hp];simp;rw [← e4]
theorem get_once (l : List Nat) (h : ∀ x ∈ l,x < 256) (h0 : (get l).2.2 = 0) : put (get l).1 = l.take (get l).2.1 ∧ 1 ≤ (get l).2.1 ∧ (get l).2.1 ≤ l.length:=by
  obtain ⟨m,e1,e2,e3,e4,_⟩:=go_once l 0 0 h (by omega) h0
  have e1' : (get l).1 = m:=by unfold get;rw [e1];simp
  have e2' : (get l).2.1 = (put m).length:=by unfold get;rw [e2];simp
  rw [e1',e2']
  refine ⟨e4,?_,e3⟩
  by_cases h1 : m < 128
  · rw [put_last _ h1];simp
  · rw [put_on _ h1];simp
theorem go_put : ∀ (f m k acc : Nat) (more : List Nat),m < 128 ^ f → k ≤ 4 → m * 128 ^ k < 4294967296 → (0 < k → m ≠ 0) →
    go k acc (put m ++ more) = (acc + m * 128 ^ k,k + (put m).length,0) ∧ ∀ c,c < (put m).length → go k acc ((put m).take c) = (0,0,2)
  | 0,m,k,acc,more,h,hk,hm,h0 => by
    simp at h;subst h
    have hk0 : k = 0:=by
      rcases Nat.eq_zero_or_pos k with h | h
      · exact h
      · exact absurd rfl (h0 h)
    subst hk0
    rw [put_last _ (by omega)]
    refine ⟨?_,fun c hc => ?_⟩
    · rw [List.cons_append,go_last _ _ _ _ (by omega) (by omega) (by omega)];rfl
    · have : c = 0:=by simp at hc;exact hc
      subst this;rw [List.take_zero,go_nil]
  | f + 1,m,k,acc,more,h,hk,hm,h0 => by
    have h4 : k = 4 → m ≤ 15:=by
      rintro rfl
      have : (128 : Nat) ^ 4 = 268435456:=by decide
      rw [this] at hm;omega
    by_cases h1 : m < 128
    · rw [put_last _ h1]
      refine ⟨?_,fun c hc => ?_⟩
      · rw [List.cons_append,go_last _ _ _ _ (by omega) (by omega) h1];rfl
      · have : c = 0:=by simp at hc;exact hc
        subst this;rw [List.take_zero,go_nil]
    · have hp : m / 128 * 128 ^ (k + 1) ≤ m * 128 ^ k:=by
        rw [Nat.pow_succ,Nat.mul_comm (128 ^ k) 128,← Nat.mul_assoc]
        exact Nat.mul_le_mul_right _ (Nat.div_mul_le_self m 128)
      have hpos : 0 < 128 ^ k:=Nat.pow_pos (by omega)
      obtain ⟨i1,i2⟩:=go_put f (m / 128) (k + 1) (acc + m % 128 * 128 ^ k) more (by rw [Nat.pow_succ] at h;omega) (by omega) (by omega) (by omega)
      rw [put_on _ h1]
      refine ⟨?_,fun c hc => ?_⟩
      · rw [List.cons_append,go_on _ _ _ _ (by omega) (by omega),Nat.add_sub_cancel,i1]
        refine Prod.ext ?_ (Prod.ext ?_ rfl)
        · show acc + m % 128 * 128 ^ k + m / 128 * 128 ^ (k + 1) = acc + m * 128 ^ k
          rw [Nat.pow_succ,Nat.mul_comm (128 ^ k) 128,← Nat.mul_assoc,Nat.add_assoc,← Nat.add_mul]
          congr 2;omega
        · show k + 1 + (put (m / 128)).length = k + ((m % 128 + 128) :: put (m / 128)).length
          simp;omega
      · match c,hc with
        | 0,_ => rw [List.take_zero,go_nil]
        | c + 1,hc =>
          rw [List.take_succ_cons,go_on _ _ _ _ (by omega) (by omega),Nat.add_sub_cancel]
          exact i2 c (by simp at hc;exact hc)
theorem get_put (n : Nat) (hn : n < 4294967296) (more : List Nat) : get (put n ++ more) = (n,size n,0):=by
  have h:=(go_put 5 n 0 0 more (five n hn) (by omega) (by simpa using hn) (by omega)).1
  rw [len_put n hn] at h
  simpa [get] using h
theorem get_cut (n : Nat) (hn : n < 4294967296) (c : Nat) (hc : c < size n) : get ((put n).take c) = (0,0,2) :=
  (go_put 5 n 0 0 [] (five n hn) (by omega) (by simpa using hn) (by omega)).2 c (by rw [len_put n hn];exact hc)
end Go.Proofs.Ytcbfghcdbmlneaa.V
namespace Go.Proofs.Ytcbfghcdbmlneaa.S
def has (m : Nat) (id : Int) : Bool:=decide (0 ≤ id ∧ id ≤ 31) && m.testBit id.toNat
def ids (m : Nat) (n : Nat) : List Nat:=(List.range n).filter fun i => m.testBit i
theorem ids_succ (m n : Nat) : ids m (n + 1) = ids m n ++ (if m.testBit n then [n] else []):=by
  unfold ids
  rw [List.range_succ,List.filter_append]
  by_cases h : m.testBit n <;> simp [h]
def mask (l : List Nat) : Nat:=(l.map (2 ^ ·)).sum
theorem mask_snoc (l : List Nat) (x : Nat) : mask (l ++ [x]) = mask l + 2 ^ x:=by simp [mask]
def within (a b n : Nat) : Bool:=(List.range n).all fun i => !a.testBit i || b.testBit i
def bad (l : List Int) (size : Int) (i : Nat) : Nat :=
  let x:=l.getD i 0
  if x < 0 ∨ size ≤ x ∨ 31 < x then 1 else if 0 < i ∧ x ≤ l.getD (i - 1) 0 then 5 else 0
def first (l : List Int) (size : Int) : Nat → Nat
  | 0 => 0
  | n + 1 => if first l size n = 0 then bad l size n else first l size n
def count (m : Nat) : Nat:=(ids m 32).length
def least (m : Nat) : Int:=match ids m 32 with | [] => -1 | x :: _ => (x : Int)
def all (n : Int) : Nat:=if n ≤ 0 then 0 else if 32 ≤ n then 4294967295 else 2 ^ n.toNat - 1
def one (id : Int) : Nat:=if 0 ≤ id ∧ id ≤ 31 then 2 ^ id.toNat else 0
theorem one_nat (i : Nat) (h : i ≤ 31) : one (i : Int) = 2 ^ i:=by unfold one;rw [if_pos (by omega),Int.toNat_natCast]
end Go.Proofs.Ytcbfghcdbmlneaa.S
namespace Go.Proofs.Ytcbfghcdbmlneaa.S
def rest (m : Nat) : Nat:=m &&& (m - 1)
theorem low_split : ∀ m : Nat,0 < m → ∃ k q,m = 2 ^ (k + 1) * q + 2 ^ k:=by
  intro m
  induction m using Nat.strongRecOn with
  | _ m ih =>
    intro h
    by_cases ho : m % 2 = 1
    · exact ⟨0,m / 2,by omega⟩
    · obtain ⟨k,q,e⟩:=ih (m / 2) (by omega) (by omega)
      refine ⟨k + 1,q,?_⟩
      have e1 : 2 ^ (k + 1 + 1) * q = 2 * (2 ^ (k + 1) * q):=by rw [Nat.pow_succ 2 (k + 1)];rw [Nat.mul_comm (2 ^ (k + 1)) 2,Nat.mul_assoc]
      have e2 : 2 ^ (k + 1) = 2 * 2 ^ k:=by rw [Nat.pow_succ];omega
      rw [e1]
      generalize 2 ^ (k + 1) * q = z at *
      omega
theorem JP (k q i : Nat) : (2 ^ (k + 1) * q + 2 ^ k).testBit i = (decide (i = k) || (decide (k < i) && q.testBit (i - (k + 1)))):=by
  have h2 : 2 ^ k < 2 ^ (k + 1):=Nat.pow_lt_pow_right (by decide) (by omega)
  rw [Nat.testBit_two_pow_mul_add q h2]
  by_cases hi : i < k + 1
  · rw [if_pos hi,Nat.testBit_two_pow,decide_eq_false (by omega : ¬ k < i)]
    simp [eq_comm]
  · rw [if_neg hi,decide_eq_false (by omega : ¬ i = k),decide_eq_true (by omega : k < i)]
    simp
theorem bit_pred (k q i : Nat) : (2 ^ (k + 1) * q + 2 ^ k - 1).testBit i = (decide (i < k) || (decide (k < i) && q.testBit (i - (k + 1)))):=by
  have h1 : 0 < 2 ^ k:=Nat.pow_pos (by decide)
  have h2 : 2 ^ k - 1 < 2 ^ (k + 1):=by have : 2 ^ k < 2 ^ (k + 1):=Nat.pow_lt_pow_right (by decide) (by omega);omega
  rw [show 2 ^ (k + 1) * q + 2 ^ k - 1 = 2 ^ (k + 1) * q + (2 ^ k - 1) by omega,Nat.testBit_two_pow_mul_add q h2]
  by_cases hi : i < k + 1
  · rw [if_pos hi,Nat.testBit_two_pow_sub_one,decide_eq_false (by omega : ¬ k < i)]
    simp
  · rw [if_neg hi,decide_eq_false (by omega : ¬ i < k),decide_eq_true (by omega : k < i)]
    simp
theorem YU (k q i : Nat) : (rest (2 ^ (k + 1) * q + 2 ^ k)).testBit i = (decide (k < i) && q.testBit (i - (k + 1))):=by
  unfold rest
  rw [Nat.testBit_and,JP,bit_pred]
  by_cases h : k < i
  · rw [decide_eq_true h,decide_eq_false (by omega : ¬ i = k)];cases q.testBit (i - (k + 1)) <;> simp
  · rw [decide_eq_false h]
    by_cases h2 : i = k
    · rw [decide_eq_true h2,decide_eq_false (by omega : ¬ i < k)];simp
    · rw [decide_eq_false h2];simp
theorem XH (k q : Nat) : ∀ n,ids (2 ^ (k + 1) * q + 2 ^ k) n = if k < n then k :: ids (rest (2 ^ (k + 1) * q + 2 ^ k)) n else ids (rest (2 ^ (k + 1) * q + 2 ^ k)) n
  | 0 => by simp [ids]
  | n + 1 => by
    rw [ids_succ,ids_succ,XH k q n,YU,JP]
    by_cases h1 : k < n
    · rw [if_pos h1,if_pos (by omega : k < n + 1),decide_eq_false (by omega : ¬ n = k)];rfl
    · rw [if_neg h1]
      by_cases h2 : n = k
      · subst h2
        have e : ids (rest (2 ^ (n + 1) * q + 2 ^ n)) n = []:=by
          unfold ids
          rw [List.filter_eq_nil_iff]
          intro i hi
          have:=List.mem_range.1 hi
          rw [YU,decide_eq_false (by omega)];simp
        rw [e];simp
      · rw [decide_eq_false h2,decide_eq_false h1,if_neg (show ¬ k < n + 1 by omega)];rfl
theorem neg_bit (k q : Nat) (hm : 2 ^ (k + 1) * q + 2 ^ k < 4294967296) : ((2 ^ (k + 1) * q + 2 ^ k) &&& (4294967296 - (2 ^ (k + 1) * q + 2 ^ k))) = 2 ^ k:=by
  have h1 : 0 < 2 ^ k:=Nat.pow_pos (by decide)
  apply Nat.eq_of_testBit_eq
  intro j
  have e : 4294967296 - (2 ^ (k + 1) * q + 2 ^ k) = 2 ^ 32 - ((2 ^ (k + 1) * q + 2 ^ k - 1) + 1):=by
    have : 4294967296 = 2 ^ 32:=by decide
    omega
  rw [Nat.testBit_and,e,Nat.testBit_two_pow_sub_succ (by omega),JP,bit_pred,Nat.testBit_two_pow]
  by_cases h2 : j = k
  · subst h2
    have : j < 32:=by
      rcases Nat.lt_or_ge j 32 with h | h
      · exact h
      · have:=Nat.pow_le_pow_right (by decide : 0 < 2) h
        omega
    simp [this]
  · rw [decide_eq_false h2,decide_eq_false (by omega : ¬ k = j)]
    by_cases h3 : k < j
    · rw [decide_eq_true h3,decide_eq_false (by omega : ¬ j < k)]
      cases q.testBit (j - (k + 1)) <;> simp
    · rw [decide_eq_false h3];simp
theorem low (m : Nat) (h0 : m ≠ 0) (hm : m < 4294967296) : ∃ k,k ≤ 31 ∧ ids m 32 = k :: ids (rest m) 32 ∧ (m &&& (4294967296 - m)) = 2 ^ k ∧ rest m < m:=by
  obtain ⟨k,q,rfl⟩:=low_split m (by omega)
  have h1 : 0 < 2 ^ k:=Nat.pow_pos (by decide)
  have hk : k < 32:=by
    rcases Nat.lt_or_ge k 32 with h | h
    · exact h
    · have:=Nat.pow_le_pow_right (by decide : 0 < 2) h
      omega
  refine ⟨k,by omega,?_,neg_bit k q hm,?_⟩
  · have:=XH k q 32
    rw [if_pos hk] at this
    exact this
  · unfold rest
    exact Nat.lt_of_le_of_lt Nat.and_le_right (by omega)
end Go.Proofs.Ytcbfghcdbmlneaa.S
namespace Go.Proofs.Ytcbfghcdbmlneaa.R
structure St where
  at_ : Nat
  wh : Nat
  why : Nat
def fail (s : St) (e : Nat) : St:=if s.why = 0 then ⟨s.at_,s.at_,e⟩ else s
def num (bs : List Nat) (s : St) (most : Int) : Nat × St :=
  if s.why = 0 then
    if (V.get (bs.drop s.at_)).2.2 = 0 then
      if most < ((V.get (bs.drop s.at_)).1 : Int) then (0,fail s 4)
      else ((V.get (bs.drop s.at_)).1,⟨s.at_ + (V.get (bs.drop s.at_)).2.1,s.wh,0⟩)
    else (0,fail s (V.get (bs.drop s.at_)).2.2)
  else (0,s)
def raw (bs : List Nat) (s : St) (n : Int) : List Nat × St :=
  if s.why = 0 then
    if n < 0 then ([],fail s 1)
    else if (bs.length : Int) - (s.at_ : Int) < n then ([],fail s 2)
    else ((bs.drop s.at_).take n.toNat,⟨s.at_ + n.toNat,s.wh,0⟩)
  else ([],s)
def ids (bs : List Nat) (most : Int) : Nat → List Nat → St → Nat × St
  | 0,l,s => (if s.why = 0 then S.mask l % 4294967296 else 0,s)
  | k + 1,l,s =>
    if (num bs s most).2.why = 0 then
      if l ≠ [] ∧ (num bs s most).1 ≤ l.getLastD 0 then (0,fail ⟨s.at_,(num bs s most).2.wh,(num bs s most).2.why⟩ 5)
      else ids bs most k (l ++ [(num bs s most).1]) (num bs s most).2
    else (0,(num bs s most).2)
def clip (size : Int) : Int:=if size < 0 then 0 else if 32 < size then 32 else size
def set (bs : List Nat) (s : St) (size : Int) : Nat × St :=
  ids bs (clip size - 1) (num bs s (clip size)).1 [] (num bs s (clip size)).2
def Ok (bs : List Nat) (s : St) : Prop:=s.at_ ≤ bs.length ∧ s.wh ≤ bs.length ∧ s.why ≤ 7
theorem LI {bs : List Nat} {s : St} (h : Ok bs s) (e : Nat) (he : e ≤ 7) : Ok bs (fail s e):=by
  unfold fail;split
  · exact ⟨h.1,h.1,he⟩
  · exact h
theorem num_ok {bs : List Nat} (hb : ∀ x ∈ bs,x < 256) {s : St} (h : Ok bs s) (most : Int) : Ok bs (num bs s most).2 ∧ (num bs s most).1 < 4294967296:=by
  have hbd : ∀ x ∈ bs.drop s.at_,x < 256:=fun x hx => hb x (List.mem_of_mem_drop hx)
  obtain ⟨h1,h2,h3⟩:=V.get_small (bs.drop s.at_) hbd
  unfold num
  split
  · split
    · rename_i h0
      have ho:=(V.get_once (bs.drop s.at_) hbd h0).2.2
      rw [List.length_drop] at ho
      split
      · exact ⟨LI h 4 (by omega),by show 0 < 4294967296;decide⟩
      · exact ⟨⟨by show s.at_ + _ ≤ _;have:=h.1;omega,h.2.1,by show 0 ≤ 7;decide⟩,h1⟩
    · exact ⟨LI h _ (by omega),by show 0 < 4294967296;decide⟩
  · exact ⟨h,by show 0 < 4294967296;decide⟩
theorem num_why {bs : List Nat} {s : St} {most : Int} (h : s.why ≠ 0) : num bs s most = (0,s):=by unfold num;rw [if_neg h]
theorem raw_ok {bs : List Nat} {s : St} (h : Ok bs s) (n : Int) : Ok bs (raw bs s n).2:=by
  unfold raw
  split
  · split
    · exact LI h 1 (by omega)
    · split
      · exact LI h 2 (by omega)
      · exact ⟨by show s.at_ + _ ≤ _;have:=h.1;omega,h.2.1,by show 0 ≤ 7;decide⟩
  · exact h
theorem num_le {bs : List Nat} {s : St} {most : Int} (h0 : 0 ≤ most) : ((num bs s most).1 : Int) ≤ most:=by
  unfold num
  split
  · split
    · split
      · exact h0
      · show ((V.get (bs.drop s.at_)).1 : Int) ≤ most
        omega
    · exact h0
  · exact h0
end Go.Proofs.Ytcbfghcdbmlneaa.R
namespace Go.Proofs.Ytcbfghcdbmlneaa
theorem R.num_at {bs post : List Nat} {s : R.St} {x : Nat} {most : Int} (hd : bs.drop s.at_ = V.put x ++ post) (hx : x < 4294967296) (hm : (x : Int) ≤ most) (hw : s.why = 0) : R.num bs s most = (x,⟨s.at_ + (V.put x).length,s.wh,0⟩):=by
  unfold R.num
  rw [hd,V.get_put x hx post,if_pos hw,if_pos rfl,if_neg (by show ¬ most < (x : Int);omega),V.len_put x hx]
theorem R.raw_at {bs q post : List Nat} {s : R.St} (hat : s.at_ ≤ bs.length) (hd : bs.drop s.at_ = q ++ post) (hw : s.why = 0) : R.raw bs s (q.length : Int) = (q,⟨s.at_ + q.length,s.wh,0⟩):=by
  have hl : bs.length - s.at_ = q.length + post.length:=by rw [← List.length_drop,hd,List.length_append]
  unfold R.raw
  rw [if_pos hw,if_neg (by omega),if_neg (by omega),Int.toNat_natCast,hd,List.take_left']
  rfl
end Go.Proofs.Ytcbfghcdbmlneaa
namespace Go.Proofs.Ytcbfghcdbmlneaa
open Go.RowKit
theorem j7 {P : Program} {ops : Array Oper} {rest : List Oper} {o : Oper} {a : Act} {w : World} {Q : Exit → Act → World → Prop} (hgd : o.guard = none) (ty : TypeId) (ho : o.op = .alloc ty)
    (cs : List Value) (hz : (P.info? ty).map (·.zero) = some (some (.agg cs.toArray)))
    (h : ∀ g w',w.heap.size ≤ g → Blk w' g ty cs → Below w.heap.size w w' → wpList P ops Q rest (a.put o.dst (.pointer (some ⟨g,0,none⟩))) w') : wpList P ops Q (o :: rest) a w:=by
  refine wpList_plain hgd fun K hK => ?_
  cases hq : P.info? ty with
  | none => simp [hq] at hz
  | some i =>
    have hz' : i.zero = some (.agg cs.toArray):=by simpa [hq] using hz
    unfold Oper.wp
    simp [execOp,ho,Instr.alloc,zeroValue,typeInfo,hq,hz',newVar,newRow,Value.cells,Result.andThen]
    exact hK _ _ (h _ _ (Nat.le_refl _) (Blk.newAt rfl rfl) ((Below.refl _ _).alloc (Nat.le_refl _) _))
theorem yF {P : Program} {ops : Array Oper} {rest : List Oper} {o : Oper} {a : Act} {w : World} {Q : Exit → Act → World → Prop} (hgd : o.guard = none) (ty : TypeId) (ho : o.op = .build ty #[])
    (cs : List Value) (n : Nat) (e : TypeId) (hu : P.underlying ty = some (.array n e)) (he : ((P.info? e).map (·.size)).isSome = true) (hz : (P.info? ty).map (·.zero) = some (some (.agg cs.toArray)))
    (h : wpList P ops Q rest (a.put o.dst (.agg cs.toArray)) w) : wpList P ops Q (o :: rest) a w:=by
  refine wpList_plain hgd fun K hK => ?_
  cases hq : P.info? ty with
  | none => simp [hq] at hz
  | some i =>
    have hz' : i.zero = some (.agg cs.toArray):=by simpa [hq] using hz
    cases hqe : P.info? e with
    | none => simp [hqe] at he
    | some ie =>
      unfold Oper.wp
      simp [execOp,ho,Instr.build,zeroValue,typeInfo,sizeOf,hq,hqe,hz',run_underlying hu,Instr.fill,Value.cells,Result.andThen]
      exact hK _ _ h
theorem j6 {P : Program} {ops : Array Oper} {rest : List Oper} {o : Oper} {a : Act} {w : World} {Q : Exit → Act → World → Prop} (hgd : o.guard = none) (ty : TypeId) (x : Operand) (ho : o.op = .box ty x)
    (cs : List Value) (hx : a.eval x = .agg cs.toArray)
    (h : ∀ g w',w.heap.size ≤ g → Blk w' g ty cs → Below w.heap.size w w' → wpList P ops Q rest (a.put o.dst (.pointer (some ⟨g,0,none⟩))) w') : wpList P ops Q (o :: rest) a w:=by
  refine wpList_plain hgd fun K hK => ?_
  unfold Oper.wp
  simp [execOp,ho,hx,Instr.box,newVar,newRow,Value.cells,Result.andThen]
  exact hK _ _ (h _ _ (Nat.le_refl _) (Blk.newAt rfl rfl) ((Below.refl _ _).alloc (Nat.le_refl _) _))
theorem qZ {P : Program} {ops : Array Oper} {rest : List Oper} {o : Oper} {a : Act} {w : World} {Q : Exit → Act → World → Prop} (hgd : o.guard = none) (ty : TypeId) (x ix : Operand) (ho : o.op = .index ty x ix)
    (n : Nat) (e : TypeId) (hu : P.underlying ty = some (.array n e)) (d : TypeDesc) (hd : P.underlying e = some d) (hna : (match d with | .struct _ | .array _ _ => false | _ => true) = true) (hsz : (P.info? e).map (·.size) = some 1)
    (cs : List Value) (hx : a.eval x = .agg cs.toArray) (i : Nat) (hi : a.eval ix = .int .i64 (i : Int)) (hin : i < n) (v : Value) (hv : cs[i]? = some v)
    (h : wpList P ops Q rest (a.put o.dst v) w) : wpList P ops Q (o :: rest) a w:=by
  refine wpList_plain hgd fun K hK => ?_
  have hagg : (isAgg e).run P w = .ok false w:=by
    unfold isAgg
    rw [Sem.run_bind,run_underlying hd w]
    cases d <;> simp_all
  cases hq : P.info? e with
  | none => simp [hq] at hsz
  | some ie =>
    have hs : ie.size = 1:=by simpa [hq] using hsz
    unfold Oper.wp
    simp [execOp,ho,Instr.index,hx,hi,asIntOf,run_underlying hu,hin,sizeOf,typeInfo,hq,hs,part,hagg,hv,Result.andThen]
    exact hK _ _ h
theorem LE {P : Program} {ops : Array Oper} {rest : List Oper} {o : Oper} {a : Act} {w : World} {Q : Exit → Act → World → Prop} (hgd : o.guard = none) (t : TypeId) (l c : Operand) (ho : o.op = .makeSlice t l c)
    (e : TypeId) (z : Value) (bytes : Nat) (ht : P.underlying t = some (.slice e)) (hi : (P.info? e).map (fun i => (i.zero,i.size,i.bytes)) = some (some z,1,bytes)) (hz1 : z.cells = #[z])
    (kl kc : IntKind) (n m : Nat) (hl : a.eval l = .int kl (n : Int)) (hc : a.eval c = .int kc (m : Int)) (hnm : n ≤ m) (hb : bytes * m ≤ 281474976710656) (h63 : m ≤ 9223372036854775807)
    (h : ∀ g w',w.heap.size ≤ g → Blk w' g e (List.replicate m z) → Below w.heap.size w w' → wpList P ops Q rest (a.put o.dst (.slice (some ⟨g,0,none⟩) n m)) w') : wpList P ops Q (o :: rest) a w:=by
  refine wpList_plain hgd fun K hK => ?_
  obtain ⟨i,hi0,hzz⟩:=Option.map_eq_some_iff.1 hi
  simp only [Prod.mk.injEq] at hzz
  obtain ⟨hz,hs,hbb⟩:=hzz
  have hb' : (i.bytes : Int) * (m : Int) ≤ 281474976710656:=by
    have h : ((i.bytes * m : Nat) : Int) ≤ 281474976710656:=by rw [hbb];omega
    rwa [Int.natCast_mul] at h
  have hr:=run_make (P:=P) w t e i z ht hi0 hz kl kc n m (by omega) (by omega) hb' (by omega)
  simp only [Int.toNat_natCast,hs,Nat.mul_one,hz1] at hr
  have hmc : madeCells #[z] m = (List.replicate m z).toArray:=by
    apply Array.ext
    · simp [madeCells]
    · intro k h1 h2
      simp [madeCells,Nat.mod_one]
  unfold Oper.wp
  simp [execOp,ho,hl,hc,hr,Result.andThen]
  exact hK _ _ (h _ _ (Nat.le_refl _) (Blk.newAt hmc rfl) ((Below.refl _ _).alloc (Nat.le_refl _) _))
theorem Blk.own {w : World} {g B : Nat} {e : TypeId} {cs xs : List Value} {cap : Nat} (h : Blk w g e cs) (hB : B ≤ g) (hc : cs.length = cap) (hn : xs.length ≤ cap) (hm : cap ≤ maxLen) (hx : cs.take xs.length = xs) :
    Own w B e (.slice (some ⟨g,0,none⟩) xs.length cap) xs :=
  ⟨by simp,.inr ⟨g,cap,cs.toArray,rfl,hB,h,hn,hm,by simpa using hc,by simpa using hx⟩⟩
def InBlock (A A2 : Option Addr) : Prop:=∀ ad,A2 = some ad → ∃ a0,A = some a0 ∧ ad.block = a0.block
theorem uJ {P : Program} {ops : Array Oper} {rest : List Oper} {o : Oper} {a : Act} {w : World} {Q : Exit → Act → World → Prop} (hgd : o.guard = none) (ty : TypeId) (x lo hi : Operand) (ho : o.op = .slice ty x (some lo) (some hi) none)
    (e : TypeId) (hu : P.underlying ty = some (.slice e)) (hsz : (P.info? e).map (·.size) = some 1) (A : Option Addr) (n c : Nat) (hx : a.eval x = .slice A n c) (k k2 : IntKind) (l m : Nat) (hl : a.eval lo = .int k (l : Int)) (hh : a.eval hi = .int k2 (m : Int)) (hlm : l ≤ m) (hmn : m ≤ n) (hnc : n ≤ c)
    (h : ∀ A2,InBlock A A2 → (∀ {α : Type} (f : α → Value) (w2 : World) (B : Nat) (xs : List α),Row f w2 B A n xs → Row f w2 B A2 (m - l) ((xs.take m).drop l)) → wpList P ops Q rest (a.put o.dst (.slice A2 (m - l) (c - l))) w) : wpList P ops Q (o :: rest) a w:=by
  refine wpList_plain hgd fun K hK => ?_
  have hel : P.elem ty = e:=by simp [Program.elem,hu]
  have h1:=run_slice_lh (P:=P) w ty A n c (by rw [hel];exact hu) k k2 (l : Int) (m : Int) (by omega) (by omega) (by omega)
  have h2:=run_sliceAt_slice (P:=P) w ty (.slice A n c) (some (.int k (l : Int))) (some (.int k2 (m : Int))) none (by rw [hel];exact hu)
  rw [h1] at h2
  cases hq : P.info? e with
  | none => simp [hq] at hsz
  | some ie =>
    have hs : ie.size = 1:=by simpa [hq] using hsz
    have hso : (sizeOf e).run P w = .ok 1 w:=by simp [sizeOf,typeInfo,hq,hs]
    have hk:=hK _ _ (h (if c = l then A else A.map (·.add l)) (by
      intro ad had
      split at had
      · exact ⟨ad,had,rfl⟩
      · cases A with
        | none => cases had
        | some a0 => cases had;exact ⟨a0,rfl,add_block a0 l⟩) (by
      intro α f w2 B xs hr
      have hr2:=hr.take hmn
      split
      · rename_i hcl
        exact Row.none_ (List.drop_of_length_le (by rw [hr2.len];omega)) (by omega)
      · cases A with
        | none =>
          have hn0 : n = 0:=by
            rcases Nat.eq_zero_or_pos n with h0 | h0
            · exact h0
            · obtain ⟨_,h,_⟩:=hr.cells h0;cases h
          exact Row.none_ (List.drop_of_length_le (by rw [hr2.len];omega)) (by omega)
        | some a0 => exact hr2.cutAt hlm))
    unfold Oper.wp execOp
    simp only [ho,hx,hl,hh,Option.map_some,Option.map_none,h2,Sem.run_bind,Sem.run_pure,hel,hso,sliced,Result.andThen_ok,Int.toNat_natCast,Nat.mul_one]
    exact hk
theorem Own.split {w : World} {B n : Nat} {e : TypeId} {v : Value} {bs : List Nat} (h : Own w B e v (bs.map byteV)) (hn : bs.length = n) :
    ∃ (A : Option Addr) (c : Nat),v = .slice A n c ∧ n ≤ c ∧ c ≤ maxLen ∧ Row byteV w w.heap.size A n bs ∧ (∀ ad : Addr,A = some ad → B ≤ ad.block ∧ ad.block < w.heap.size) ∧
      (0 < n → ∃ (g : Nat) (cur : List Value),A = some ⟨g,0,none⟩ ∧ Blk w g e cur ∧ n ≤ cur.length ∧ ∀ (k x : Nat),bs[k]? = some x → cur[k]? = some (byteV x)):=by
  obtain ⟨A,c,rfl,hc,hm,hr⟩:=h.bytesN hn
  refine ⟨A,c,rfl,hc,hm,hr,fun ad e1 => ?_,fun h0 => ?_⟩
  · subst e1
    exact h.block ad.block rfl
  · rcases h.2 with ⟨hv,hz⟩ | ⟨g,cap,cur,hv,_,hg,_,_,_,ht⟩
    · rw [List.length_map] at hz;omega
    · injection hv with e1 e2 e3
      subst e1
      refine ⟨g,cur.toList,rfl,by unfold Blk;simpa using hg,?_,fun k x hx => ?_⟩
      · have:=congrArg List.length ht
        rw [List.length_take,List.length_map] at this
        omega
      · have hk : k < n:=by rw [← hn];exact (List.getElem?_eq_some_iff.1 hx).1
        have h2 : (List.map byteV bs)[k]? = some (byteV x):=by rw [List.getElem?_map,hx];rfl
        rw [← ht,List.getElem?_take,List.length_map,hn,Nat.mul_one,if_pos hk] at h2
        exact h2
theorem vS {P : Program} {ops : Array Oper} {rest : List Oper} {o : Oper} {a : Act} {w : World} {Q : Exit → Act → World → Prop} (hgd : Region.wanted o (yielded ops a.tmps) = true) (ty : TypeId) (x hi : Operand) (ho : o.op = .slice ty x none (some hi) none)
    (e : TypeId) (hu : P.underlying ty = some (.slice e)) (hsz : (P.info? e).map (·.size) = some 1) (A : Option Addr) (n c : Nat) (hx : a.eval x = .slice A n c) (k : IntKind) (m : Nat) (hl : a.eval hi = .int k (m : Int)) (hmc : m ≤ c)
    (h : wpList P ops Q rest (a.put o.dst (.slice A m c)) w) : wpList P ops Q (o :: rest) a w:=by
  refine BigFrame.wpList_want hgd fun K hK => ?_
  have hel : P.elem ty = e:=by simp [Program.elem,hu]
  have h1:=run_slice_h (P:=P) w ty A n c (by rw [hel];exact hu) k (m : Int) (by omega) (by omega)
  have h2:=run_sliceAt_slice (P:=P) w ty (.slice A n c) none (some (.int k (m : Int))) none (by rw [hel];exact hu)
  rw [h1] at h2
  cases hq : P.info? e with
  | none => simp [hq] at hsz
  | some ie =>
    have hs : ie.size = 1:=by simpa [hq] using hsz
    have hso : (sizeOf e).run P w = .ok 1 w:=by simp [sizeOf,typeInfo,hq,hs]
    have hk:=hK _ _ h
    have e0 : (if c = 0 then A else Option.map (fun x => x.add 0) A) = A:=by
      split
      · rfl
      · cases A <;> simp [Addr.add]
    unfold Oper.wp execOp
    simp only [ho,hx,hl,Option.map_some,Option.map_none,h2,Sem.run_bind,Sem.run_pure,hel,hso,sliced,Result.andThen_ok,Int.toNat_natCast,Nat.zero_mul,Nat.sub_zero,e0]
    exact hk
structure Held (S : Nat → Prop) (w w' : World) : Prop where
  os : w'.os = w.os
  tape : w'.tape = w.tape
  output : w'.output = w.output
  size : w.heap.size ≤ w'.heap.size
  block : ∀ k,S k → w'.heap[k]? = w.heap[k]?
theorem Held.refl (S : Nat → Prop) (w : World) : Held S w w:=⟨rfl,rfl,rfl,Nat.le_refl _,fun _ _ => rfl⟩
theorem Held.trans {S : Nat → Prop} {w w1 w2 : World} (h : Held S w w1) (k : Held S w1 w2) : Held S w w2 :=
  ⟨k.os.trans h.os,k.tape.trans h.tape,k.output.trans h.output,Nat.le_trans h.size k.size,fun i hi => (k.block i hi).trans (h.block i hi)⟩
theorem Held.less {S S' : Nat → Prop} {w w' : World} (h : Held S w w') (hS : ∀ k,S' k → S k) : Held S' w w':=⟨h.os,h.tape,h.output,h.size,fun k hk => h.block k (hS k hk)⟩
theorem Held.below {B : Nat} {w w' : World} (h : Held (· < B) w w') : Below B w w':=⟨h.os,h.tape,h.output,h.size,h.block⟩
theorem Held.of_below {S : Nat → Prop} {B : Nat} {w w' : World} (h : Below B w w') (hS : ∀ k,S k → k < B) : Held S w w':=⟨h.os,h.tape,h.output,h.size,fun k hk => h.block k (hS k hk)⟩
theorem Held.of_grown {S : Nat → Prop} {row : Option Nat} {w w' : World} (h : w.grownBy w' row) (hS : ∀ k,S k → k < w.heap.size ∧ some k ≠ row) : Held S w w' :=
  ⟨h.os,h.tape,h.output,h.size,fun k hk => h.block k (hS k hk).1 (hS k hk).2⟩
theorem Held.cell {S : Nat → Prop} {w w' : World} (h : Held S w w') (p : Addr) (hp : S p.block) : w'.cell? p = w.cell? p:=World.cell?_of_block (w:=w) (h.block p.block hp)
theorem Held.drewN {S : Nat → Prop} {w w' : World} (h : Held S w w') (n : Nat) : Held S w (w'.drewN n):=⟨h.os,h.tape,h.output,h.size,h.block⟩
theorem Row.heldAt {α : Type} {f : α → Value} {w w' : World} {B n : Nat} {A : Option Addr} {l : List α} {S : Nat → Prop} (h : Row f w B A n l) (hb : Held S w w') (hS : ∀ ad,0 < n → A = some ad → S ad.block) : Row f w' B A n l :=
  ⟨h.len,fun hn => by
    obtain ⟨ad,e,hB,hc⟩:=h.cells hn
    exact ⟨ad,e,hB,fun k hlt => (hb.cell _ (by rw [add_block];exact hS ad hn e)).trans (hc k hlt)⟩⟩
theorem Blk.held {S : Nat → Prop} {w w' : World} {g : Nat} {t : TypeId} {cs : List Value} (h : Blk w g t cs) (hb : Held S w w') (hg : S g) : Blk w' g t cs:=by
  unfold Blk;rw [hb.block g hg];exact h
theorem Own.heldAt {S : Nat → Prop} {w w' : World} {B : Nat} {e : TypeId} {v : Value} {xs : List Value} (h : Own w B e v xs) (hb : Held S w w') (hS : ∀ k,v.ownBlock = some k → S k) : Own w' B e v xs:=by
  refine ⟨h.1,?_⟩
  rcases h.2 with h1 | ⟨g,cap,cur,hv,hB,hg,rest⟩
  · exact .inl h1
  · exact .inr ⟨g,cap,cur,hv,hB,by rw [hb.block g (hS g (by rw [hv];rfl))];exact hg,rest⟩
theorem Own.front {w : World} {B : Nat} {e : TypeId} {A : Option Addr} {n c : Nat} {xs : List Value} (h : Own w B e (.slice A n c) xs) {m : Nat} (hm : m ≤ n) : Own w B e (.slice A m c) (xs.take m):=by
  have hl : xs.length = n:=by
    rcases h.2 with ⟨hv,hz⟩ | ⟨g,cap,cur,hv,_,_,_,_,_,_⟩
    · injection hv with _ e2 _;omega
    · injection hv with _ e2 _;omega
  rcases h.2 with ⟨hv,hz⟩ | ⟨g,cap,cur,hv,hB,hg,hn,hcm,hs,ht⟩
  · injection hv with e1 e2 e3
    have h0 : m = 0:=by omega
    subst e1 e3 h0
    rw [List.take_zero]
    exact Own.nil w B e
  · injection hv with e1 e2 e3
    subst e1 e3
    refine ⟨by simp,.inr ⟨g,c,cur,?_,hB,hg,?_,hcm,hs,?_⟩⟩
    · rw [List.length_take,Nat.min_eq_left (by omega)]
    · rw [List.length_take];omega
    · rw [Nat.mul_one,List.length_take,Nat.min_eq_left (by omega)]
      rw [Nat.mul_one] at ht
      rw [← ht,List.take_take,Nat.min_eq_left (by omega)]
theorem Own.blk {w : World} {B : Nat} {e : TypeId} {v : Value} {xs : List Value} (h : Own w B e v xs) (h0 : 0 < xs.length) :
    ∃ (r c : Nat) (cur : List Value),v = .slice (some ⟨r,0,none⟩) xs.length c ∧ Blk w r e cur ∧ cur.length = c ∧ xs.length ≤ c ∧ c ≤ maxLen ∧ cur.take xs.length = xs ∧ B ≤ r:=by
  rcases h.2 with ⟨_,hz⟩ | ⟨g,cap,cur,hv,hB,hg,hn,hcm,hs,ht⟩
  · omega
  · exact ⟨g,cap,cur.toList,hv,by unfold Blk;simpa using hg,by simpa using hs,hn,hcm,by simpa using ht,hB⟩
def Var (w : World) (S : Nat → Prop) (g : Nat) (t e : TypeId) (xs : List Value) : Prop :=
  ∃ v,Blk w g t [v] ∧ Own w 0 e v xs ∧ v.ownBlock ≠ some g ∧ ¬ S g ∧ (∀ k,v.ownBlock = some k → ¬ S k) ∧ ∀ k,S k → k < w.heap.size
theorem Var.kept {w w' : World} {S S' : Nat → Prop} {g : Nat} {t e : TypeId} {xs : List Value} {row : Option Nat} (h : Var w S g t e xs) (hg : w.grownBy w' row) (hr : ∀ k,row = some k → S k) (hS : ∀ k,S' k → S k ∨ (w.heap.size ≤ k ∧ k < w'.heap.size)) : Var w' S' g t e xs:=by
  obtain ⟨v,h1,h2,h3,h4,h5,h6⟩:=h
  have hgl:=h1.lt
  refine ⟨v,h1.grown hg (fun e1 => h4 (hr g e1.symm)),h2.far hg ?_,h3,fun hs => ?_,fun k hk hs => ?_,fun k hk => ?_⟩
  · cases hv : v.ownBlock with
    | none => exact .inl rfl
    | some k => exact .inr fun e1 => h5 k hv (hr k e1.symm)
  · rcases hS g hs with h | h
    · exact h4 h
    · omega
  · have:=(h2.block k hk).2
    rcases hS k hs with h | h
    · exact h5 k hk h
    · omega
  · have:=hg.size
    rcases hS k hk with h | h
    · have:=h6 k h;omega
    · exact h.2
theorem Var.below {w w' : World} {S S' : Nat → Prop} {g : Nat} {t e : TypeId} {xs : List Value} (h : Var w S g t e xs) (hb : Below w.heap.size w w') (hS : ∀ k,S' k → S k ∨ (w.heap.size ≤ k ∧ k < w'.heap.size)) : Var w' S' g t e xs :=
  h.kept (jT hb none) (fun k hk => by cases hk) hS
theorem Var.less {w : World} {S S' : Nat → Prop} {g : Nat} {t e : TypeId} {xs : List Value} (h : Var w S g t e xs) (hS : ∀ k,S' k → S k) : Var w S' g t e xs:=by
  obtain ⟨v,h1,h2,h3,h4,h5,h6⟩:=h
  exact ⟨v,h1,h2,h3,fun h => h4 (hS _ h),fun k hk h => h5 k hk (hS _ h),fun k h => h6 k (hS _ h)⟩
theorem Var.drewN {w : World} {S : Nat → Prop} {g : Nat} {t e : TypeId} {xs : List Value} (h : Var w S g t e xs) (n : Nat) : Var (w.drewN n) S g t e xs:=h.below (below_drewN (Below.refl _ _) n) fun _ h => .inl h
theorem Var.not {w : World} {S : Nat → Prop} {g : Nat} {t e : TypeId} {xs : List Value} (h : Var w S g t e xs) : ¬ S g:=by
  obtain ⟨v,_,_,_,h4,_⟩:=h
  exact h4
theorem Var.lt {w : World} {S : Nat → Prop} {g : Nat} {t e : TypeId} {xs : List Value} (h : Var w S g t e xs) : ∀ k,S k → k < w.heap.size:=by
  obtain ⟨v,_,_,_,_,_,h6⟩:=h
  exact h6
set_option maxHeartbeats 400000 in
theorem YM (n : Nat) (hn : n < 4294967296) (w : World) :
    Calls Try.prog 97 #[.int .u32 (n : Int)] w fun e w' => e = .returned (.int .i64 (V.size n : Int)) ∧ w = w':=by
  go_enter Try.func97,Try.ntmps97
  go_wp2
  go_loop [0,4] (fun v0 v4 => ∃ k : Nat,k ≤ 5 ∧ v4 = .int .i64 k ∧ v0 = .int .u32 (V.left n k : Int) ∧ (k = 0 ∨ V.left n k ≠ 0)) (fun _ v4 => 5 - (intOf v4).toNat)
  case atStart => exact ⟨0,by omega,rfl,by rw [V.left_zero],.inl rfl⟩
  case round =>
    obtain ⟨k,hk,rfl,rfl,hz⟩:=hrel
    have hl:=V.left_lt n k hn
    by_cases hlt : k < 5
    · have hs:=V.left_succ n k
      have hat:=V.size_at n k hlt hn hz
      generalize V.left n k = m at *
      have HS:=Lib.hid hs;clear hs
      have HA:=Lib.hid hat;clear hat
      have HZ:=Lib.hid hz;clear hz
      by_cases h0 : m / 128 = 0
      · have hb : ((m : Int) / 128 == 0) = true:=by simp;omega
        have HH:=Lib.hid h0;clear h0
        go_wp2
        go_ret
        exact ⟨lC (by rw [HA.out HH.out];omega),rfl⟩
      · have hb : ((m : Int) / 128 == 0) = false:=by simp;omega
        have HH:=Lib.hid h0;clear h0
        go_wp2
        go_round
        case rel => exact ⟨k + 1,by omega,by go_num,by rw [HS.out];go_num,.inr (by rw [HS.out];exact HH.out)⟩
        case measure => simp [intOf];omega
    · have : k = 5:=by omega
      subst this
      rw [V.left_five n hn] at hz
      simp at hz
set_option maxRecDepth 100000 in
set_option maxHeartbeats 400000 in
theorem get_any (B : Nat) (A : Option Addr) (n c : Nat) (bs : List Nat) (w : World) (hr : Row byteV w B A n bs) (hb : ∀ x ∈ bs,x < 256) (hn : n ≤ maxLen) :
    Calls Try.prog 83 #[.slice A n c] w fun e w' => e = .returned (.tuple #[.int .u32 ((V.get bs).1 : Int),.int .i64 ((V.get bs).2.1 : Int),.int .i64 ((V.get bs).2.2 : Int)]) ∧ w = w':=by
  unfold maxLen at hn
  have HR:=Lib.hid hr;clear hr
  have HB:=Lib.hid hb;clear hb
  go_enter Try.func83,Try.ntmps83
  go_wp2
  go_loop [5,10] (fun v5 v10 => ∃ k acc : Nat,k ≤ n ∧ k ≤ 4 ∧ acc < 128 ^ k ∧ v10 = .int .i64 k ∧ v5 = .int .u32 acc ∧ V.get bs = V.go k acc (bs.drop k)) (fun _ v10 => n - (intOf v10).toNat)
  case atStart => exact ⟨0,0,by omega,by omega,by simp,rfl,rfl,rfl⟩
  case round =>
    obtain ⟨k,acc,hk,hk4,hacc,rfl,rfl,hg⟩:=hrel
    have HG:=Lib.hid hg;clear hg
    have HA:=Lib.hid hacc;clear hacc
    by_cases hlt : k < n
    · obtain ⟨ad,x,rfl,hab,hx,hc⟩:=HR.out.get hlt
      rw [JO] at hc
      have hx8 : x < 256:=HB.out x (List.mem_of_getElem? hx)
      have HX:=Lib.hid hx;clear hx
      have hdrop : bs.drop k = x :: bs.drop (k + 1):=by
        obtain ⟨hl,e⟩:=List.getElem?_eq_some_iff.1 HX.out
        rw [List.drop_eq_getElem_cons hl,e]
      rw [hdrop] at HG
      clear hdrop
      have HS:=Lib.hid (V.acc_step k acc x HA.out)
      by_cases h15 : k = 4 ∧ 15 < x
      · have HF:=Lib.hid (HG.out.trans (V.go_long _ _ _ _ h15))
        obtain ⟨h4,h15⟩:=h15
        have hb : ((k : Int) == 4) = true:=by simp;omega
        clear h4
        go_wp2
        go_ret3
        exact ⟨by rw [HF.out];rfl,rfl⟩
      · have HO:=Lib.hid (V.or_step k acc x hk4 HA.out hx8 h15)
        by_cases h0 : 0 < k ∧ x = 0
        · have HF:=Lib.hid (HG.out.trans (V.go_form _ _ _ _ h15 h0))
          obtain ⟨h0k,rfl⟩:=h0
          clear h15
          have h15 : ¬ 15 < (0 : Int):=by omega
          by_cases h4 : k = 4
          · have hb : ((k : Int) == 4) = true:=by simp;omega
            clear h4
            go_wp2
            go_ret3
            exact ⟨by rw [HF.out];rfl,rfl⟩
          · have hb : ((k : Int) == 4) = false:=by simp;omega
            clear h4
            go_wp2
            go_ret3
            exact ⟨by rw [HF.out];rfl,rfl⟩
        · by_cases h128 : x < 128
          · have HF:=Lib.hid (HG.out.trans (V.go_last _ _ _ _ h15 h0 h128))
            have HM:=Lib.hid (Nat.mod_eq_of_lt h128)
            by_cases hk0 : 0 < k
            · have hx0 : ((x : Int) == 0) = false:=by simp;omega
              clear h0
              by_cases h4 : k = 4
              · have hb : ((k : Int) == 4) = true:=by simp;omega
                have h15' : ¬ 15 < (x : Int):=by omega
                clear h4 h15
                go_wp2
                go_ret3
                exact ⟨by rw [HF.out,HO.out,HM.out];rfl,rfl⟩
              · have hb : ((k : Int) == 4) = false:=by simp;omega
                clear h4 h15
                go_wp2
                go_ret3
                exact ⟨by rw [HF.out,HO.out,HM.out];rfl,rfl⟩
            · have hb : ((k : Int) == 4) = false:=by simp;omega
              clear h0 h15
              go_wp2
              go_ret3
              exact ⟨by rw [HF.out,HO.out,HM.out];rfl,rfl⟩
          · have hb : ((k : Int) == 4) = false:=by simp;omega
            have HF:=Lib.hid (HG.out.trans (V.go_on _ _ _ _ h15 h128))
            have HM : Hid (x % 128 = x - 128):=by show x % 128 = x - 128;omega
            have HK : Hid (k + 1 ≤ 4):=by show k + 1 ≤ 4;omega
            have hx0 : ((x : Int) == 0) = false:=by simp;omega
            clear h0 h15
            by_cases hk0 : 0 < k
            all_goals
              go_wp2
              go_round
              case rel => exact ⟨k + 1,acc + (x - 128) * 128 ^ k,by omega,HK.out,by rw [← HM.out];exact HS.out,by go_num,by rw [HO.out,HM.out],HF.out⟩
              case measure => simp [intOf];omega
    · have hke : k = n:=by omega
      have hnil : V.get bs = (0,0,2):=by
        rw [HG.out,List.drop_of_length_le (by rw [HR.out.len];omega),V.go_nil]
      have HF:=Lib.hid hnil
      clear hnil hke
      go_wp2
      go_ret3
      exact ⟨by rw [HF.out];rfl,rfl⟩
theorem add_byte (m : Nat) : (128 : Int) + (m : Int) % 128 = ((m % 128 + 128 : Nat) : Int):=by omega
theorem acc_eq (acc x p y : Nat) (h : x % 128 = y) : (acc : Int) + (p : Int) * ((x : Int) % 128) = ((acc + y * p : Nat) : Int):=by
  rw [← h,Int.natCast_add,Int.natCast_mul,Int.natCast_emod,Int.mul_comm];rfl
theorem part_bound (p x : Nat) (hp : p ≤ 268435456) : 0 ≤ (p : Int) * ((x : Int) % 128) ∧ (p : Int) * ((x : Int) % 128) ≤ 34091302912:=by
  have h:=Nat.mul_le_mul hp (by omega : x % 128 ≤ 127)
  have e : (p : Int) * ((x : Int) % 128) = ((p * (x % 128) : Nat) : Int):=by rw [Int.natCast_mul,Int.natCast_emod];rfl
  rw [e];omega
set_option maxRecDepth 100000 in
set_option maxHeartbeats 800000 in
theorem YW (B : Nat) (A : Option Addr) (n c : Nat) (bs : List Nat) (w : World) (hr : Row byteV w B A n bs) (hb : ∀ x ∈ bs,x < 256) (hn : n ≤ maxLen) :
    Calls Try.prog 63 #[.slice A n c] w fun e w' => e = .returned (.tuple #[.int .i64 ((V.get bs).1 : Int),.int .i64 ((V.get bs).2.1 : Int),.int .i64 ((V.get bs).2.2 : Int)]) ∧ w = w':=by
  unfold maxLen at hn
  have HR:=Lib.hid hr;clear hr
  have HB:=Lib.hid hb;clear hb
  go_enter Try.func63,Try.ntmps63
  go_wp2
  go_loop [5,6,7] (fun v5 v6 v7 => ∃ k acc p : Nat,k ≤ n ∧ k ≤ 4 ∧ acc < 128 ^ k ∧ v7 = .int .i64 k ∧ v5 = .int .i64 acc ∧ v6 = .int .i64 p ∧ p = 128 ^ k ∧ V.get bs = V.go k acc (bs.drop k)) (fun _ _ v7 => n - (intOf v7).toNat)
  case atStart => exact ⟨0,0,1,by omega,by omega,by simp,rfl,rfl,rfl,by simp,rfl⟩
  case round =>
    obtain ⟨k,acc,p,hk,hk4,hacc,rfl,rfl,rfl,hp,hg⟩:=hrel
    have hp1 : p ≤ 268435456:=by rw [hp];exact V.pow_le k hk4
    have ha1 : acc < 268435456:=by omega
    have HG:=Lib.hid hg;clear hg
    have HA:=Lib.hid hacc;clear hacc
    have HP:=Lib.hid hp;clear hp
    by_cases hlt : k < n
    · obtain ⟨ad,x,rfl,hab,hx,hc⟩:=HR.out.get hlt
      rw [JO] at hc
      have hx8 : x < 256:=HB.out x (List.mem_of_getElem? hx)
      have HX:=Lib.hid hx;clear hx
      have hdrop : bs.drop k = x :: bs.drop (k + 1):=by
        obtain ⟨hl,e⟩:=List.getElem?_eq_some_iff.1 HX.out
        rw [List.drop_eq_getElem_cons hl,e]
      rw [hdrop] at HG
      clear hdrop
      have HS:=Lib.hid (V.acc_step k acc x HA.out)
      obtain ⟨hq0,hq1⟩:=part_bound p x hp1
      by_cases h15 : k = 4 ∧ 15 < x
      · have HF:=Lib.hid (HG.out.trans (V.go_long _ _ _ _ h15))
        obtain ⟨h4,h15⟩:=h15
        have hb : ((k : Int) == 4) = true:=by simp;omega
        clear h4
        go_wp2
        go_ret3
        exact ⟨by rw [HF.out];rfl,rfl⟩
      · by_cases h0 : 0 < k ∧ x = 0
        · have HF:=Lib.hid (HG.out.trans (V.go_form _ _ _ _ h15 h0))
          obtain ⟨h0k,rfl⟩:=h0
          clear h15
          have h15 : ¬ 15 < (0 : Int):=by omega
          by_cases h4 : k = 4
          · have hb : ((k : Int) == 4) = true:=by simp;omega
            clear h4
            go_wp2
            go_ret3
            exact ⟨by rw [HF.out];rfl,rfl⟩
          · have hb : ((k : Int) == 4) = false:=by simp;omega
            clear h4
            go_wp2
            go_ret3
            exact ⟨by rw [HF.out];rfl,rfl⟩
        · by_cases h128 : x < 128
          · have HF:=Lib.hid (HG.out.trans (V.go_last _ _ _ _ h15 h0 h128))
            have HO:=Lib.hid (acc_eq acc x p x (Nat.mod_eq_of_lt h128))
            by_cases hk0 : 0 < k
            · have hx0 : ((x : Int) == 0) = false:=by simp;omega
              clear h0
              by_cases h4 : k = 4
              · have hb : ((k : Int) == 4) = true:=by simp;omega
                have h15' : ¬ 15 < (x : Int):=by omega
                clear h4 h15
                go_wp2
                go_ret3
                exact ⟨by rw [HF.out,← HP.out,← HO.out];rfl,rfl⟩
              · have hb : ((k : Int) == 4) = false:=by simp;omega
                clear h4 h15
                go_wp2
                go_ret3
                exact ⟨by rw [HF.out,← HP.out,← HO.out];rfl,rfl⟩
            · have hb : ((k : Int) == 4) = false:=by simp;omega
              clear h0 h15
              go_wp2
              go_ret3
              exact ⟨by rw [HF.out,← HP.out,← HO.out];rfl,rfl⟩
          · have hb : ((k : Int) == 4) = false:=by simp;omega
            have HF:=Lib.hid (HG.out.trans (V.go_on _ _ _ _ h15 h128))
            have hm : x % 128 = x - 128:=by omega
            have HM:=Lib.hid hm
            have HO:=Lib.hid (acc_eq acc x p (x - 128) hm)
            have HK : Hid (k + 1 ≤ 4):=by show k + 1 ≤ 4;omega
            have hx0 : ((x : Int) == 0) = false:=by simp;omega
            clear h0 h15 hm
            by_cases hk0 : 0 < k
            all_goals
              go_wp2
              go_round
              case rel => exact ⟨k + 1,acc + (x - 128) * 128 ^ k,p * 128,by omega,HK.out,by rw [← HM.out];exact HS.out,by go_num,by rw [HO.out,HP.out],by go_num,by rw [HP.out,Nat.pow_succ],HF.out⟩
              case measure => simp [intOf];omega
    · have hke : k = n:=by omega
      have hnil : V.get bs = (0,0,2):=by
        rw [HG.out,List.drop_of_length_le (by rw [HR.out.len];omega),V.go_nil]
      have HF:=Lib.hid hnil
      clear hnil hke
      go_wp2
      go_ret3
      exact ⟨by rw [HF.out];rfl,rfl⟩
set_option maxRecDepth 100000 in
set_option maxHeartbeats 800000 in
theorem add_any (B : Nat) (v : Value) (xs : List Value) (n : Nat) (hn : n < 4294967296) (w : World) (hown : Own w B 5 v xs) (hlen : xs.length ≤ 1000000) (hB : B ≤ w.heap.size) :
    Calls Try.prog 98 #[v,.int .u32 (n : Int)] w fun e w' => ∃ v',e = .returned v' ∧ Own w' B 5 v' (xs ++ (V.put n).map byteV) ∧ Grew w w' v v':=by
  have HOwn:=Lib.hid hown;clear hown
  have hs0:=V.size_pos n
  have hs1:=V.size_le n
  go_enter Try.func98,Try.ntmps98
  go_wp2_with (go_at_call 97;refine (YM n hn _).mono ?_;rintro e w' ⟨rfl,rfl⟩)
  go_loopw [0,1,8] (fun v0 v1 v8 wr => ∃ (k m : Nat) (done : List Nat),v8 = .int .i64 k ∧ v1 = .int .u32 m ∧ m < 4294967296 ∧ done.length = k ∧ V.put n = done ++ V.put m ∧ V.size n = k + V.size m ∧
      Own wr B 5 v0 (xs ++ done.map byteV) ∧ Grew w wr v v0) (fun _ _ v8 _ => V.size n - (intOf v8).toNat)
  case atStart => exact ⟨0,n,[],rfl,rfl,hn,rfl,by simp,by omega,by simpa using HOwn.out,Grew.refl _ _⟩
  case round =>
    obtain ⟨k,m,done,rfl,rfl,hm,hk,hput,hsz,hown,hg⟩:=hrel
    have hll : xs.length + done.length ≤ 1000005:=by have:=V.size_le n;have:=V.size_pos m;omega
    have hB' : B ≤ wr.heap.size:=Nat.le_trans hB hg.size
    have HOwn:=Lib.hid hown;clear hown
    have HG:=Lib.hid hg;clear hg
    have HPut:=Lib.hid hput;clear hput
    by_cases h2 : m < 128
    · have hs2:=V.size_last m h2
      have hlt : ¬ (k : Int) < (V.size n : Int) - 1:=by omega
      clear hs2 hsz
      go_wp2_with ((at_builtin;go_must (refine lH rfl (.tmp 20) (.tmp 23) 26 rfl B 5 _ _ Try.underlying26 lG rfl wr _ (xs ++ done.map byteV) _ rfl HOwn.out _ 1 rfl rfl rfl (by simp [maxLen];omega) (by simp;omega) hB' ?_);intro v1 w1 hown1 hg1;have HOwn1:=Lib.hid hown1;clear hown1;have HG1:=Lib.hid hg1;clear hg1))
      go_ret
      refine ⟨v1,rfl,?_,HG.out.trans HG1.out⟩
      have h:=HOwn1.out
      rw [HPut.out,V.put_last m h2,List.map_append,← List.append_assoc]
      exact h
    · have hs2:=V.size_on m h2 hm
      have hs3:=V.size_pos (m / 128)
      have hlt : (k : Int) < (V.size n : Int) - 1:=by omega
      have HS : Hid (V.size n = k + 1 + V.size (m / 128)):=by show _ = _;omega
      have HP2:=Lib.hid (V.put_on m h2)
      clear hs2 hs3 hsz
      go_wp2_with ((at_builtin;go_must (refine lH rfl (.tmp 10) (.tmp 15) 26 rfl B 5 _ _ Try.underlying26 lG rfl wr _ (xs ++ done.map byteV) _ rfl HOwn.out _ 1 rfl rfl rfl (by simp [maxLen];omega) (by simp;omega) hB' ?_);intro v1 w1 hown1 hg1;have HOwn1:=Lib.hid hown1;clear hown1;have HG1:=Lib.hid hg1;clear hg1))
      go_roundw
      case rel =>
        refine ⟨k + 1,m / 128,done ++ [m % 128 + 128],by go_num,by go_num,by omega,by simp;omega,?_,HS.out,?_,HG.out.trans HG1.out⟩
        · rw [HPut.out,HP2.out];simp
        · have h:=HOwn1.out
          rw [List.map_append,← List.append_assoc]
          rw [add_byte m] at h
          exact h
      case measure => simp [intOf];omega
end Go.Proofs.Ytcbfghcdbmlneaa
