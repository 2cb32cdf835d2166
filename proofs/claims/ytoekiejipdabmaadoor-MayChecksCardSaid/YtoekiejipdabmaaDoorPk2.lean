/- SetMath2, SetRef1, SetRef2, SetP1, MayP1, MayLaw1, GraphRef1, ProgRef3, Parts, Arr2. -/
import Derived.Test.YtoekiejipdabmaaDoorPk1
import Derived.Test.YtoekiejipdabmaaDoorRows
import Derived.Deep.QuietTactic
import Derived.BigQuiet
import Derived.Deep.RegionWith
import Derived.Laws.BitsAllLaws
import Derived.Laws.StructEq
import Derived.Orders
import Derived.Laws.CopyOwn
import Derived.Laws.MakeOwn
namespace Go.Proofs.YtoekiejipdabmaaDoor.S
def rest (m : Nat) : Nat:=m &&& (m - 1)
theorem YH : ∀ m : Nat,0 < m → ∃ k q,m = 2 ^ (k + 1) * q + 2 ^ k:=by
  intro m
  induction m using Nat.strongRecOn with
  | _ m ih =>
    intro h
    by_cases ho : m % 2 = 1
    · exact ⟨0,m / 2,by omega⟩
    · obtain ⟨k,q,e⟩:=ih (m / 2) (by omega) (by omega)
      refine ⟨k + 1,q,?_⟩
      have e1 : 2 ^ (k + 1 + 1) * q = 2 * (2 ^ (k + 1) * q):=by rw [Nat.pow_succ 2 (k + 1)];rw [Nat.mul_comm (2 ^ (k + 1)) 2,Nat.mul_assoc]
      have e2 : 2 ^ (k + 1) = 2 * 2 ^ k:=by rw [Nat.pow_succ];omega
      rw [e1]
      generalize 2 ^ (k + 1) * q = z at *
      omega
theorem vC (k q i : Nat) : (2 ^ (k + 1) * q + 2 ^ k).testBit i = (decide (i = k) || (decide (k < i) && q.testBit (i - (k + 1)))):=by
  have h2 : 2 ^ k < 2 ^ (k + 1):=Nat.pow_lt_pow_right (by decide) (by omega)
  rw [Nat.testBit_two_pow_mul_add q h2]
  by_cases hi : i < k + 1
  · rw [if_pos hi,Nat.testBit_two_pow,decide_eq_false (by omega : ¬ k < i)]
    simp [eq_comm]
  · rw [if_neg hi,decide_eq_false (by omega : ¬ i = k),decide_eq_true (by omega : k < i)]
    simp
theorem Q2 (k q i : Nat) : (2 ^ (k + 1) * q + 2 ^ k - 1).testBit i = (decide (i < k) || (decide (k < i) && q.testBit (i - (k + 1)))):=by
  have h1 : 0 < 2 ^ k:=Nat.pow_pos (by decide)
  have h2 : 2 ^ k - 1 < 2 ^ (k + 1):=by have : 2 ^ k < 2 ^ (k + 1):=Nat.pow_lt_pow_right (by decide) (by omega);omega
  rw [show 2 ^ (k + 1) * q + 2 ^ k - 1 = 2 ^ (k + 1) * q + (2 ^ k - 1) by omega,Nat.testBit_two_pow_mul_add q h2]
  by_cases hi : i < k + 1
  · rw [if_pos hi,Nat.testBit_two_pow_sub_one,decide_eq_false (by omega : ¬ k < i)]
    simp
  · rw [if_neg hi,decide_eq_false (by omega : ¬ i < k),decide_eq_true (by omega : k < i)]
    simp
theorem L5 (k q i : Nat) : (rest (2 ^ (k + 1) * q + 2 ^ k)).testBit i = (decide (k < i) && q.testBit (i - (k + 1))):=by
  unfold rest
  rw [Nat.testBit_and,vC,Q2]
  by_cases h : k < i
  · rw [decide_eq_true h,decide_eq_false (by omega : ¬ i = k)];cases q.testBit (i - (k + 1)) <;> simp
  · rw [decide_eq_false h]
    by_cases h2 : i = k
    · rw [decide_eq_true h2,decide_eq_false (by omega : ¬ i < k)];simp
    · rw [decide_eq_false h2];simp
theorem J8 (k q : Nat) : ∀ n,ids (2 ^ (k + 1) * q + 2 ^ k) n = if k < n then k :: ids (rest (2 ^ (k + 1) * q + 2 ^ k)) n else ids (rest (2 ^ (k + 1) * q + 2 ^ k)) n
  | 0 => by simp [ids]
  | n + 1 => by
    rw [LO,LO,J8 k q n,L5,vC]
    by_cases h1 : k < n
    · rw [if_pos h1,if_pos (by omega : k < n + 1),decide_eq_false (by omega : ¬ n = k)];rfl
    · rw [if_neg h1]
      by_cases h2 : n = k
      · subst h2
        have e : ids (rest (2 ^ (n + 1) * q + 2 ^ n)) n = []:=by
          unfold ids
          rw [List.filter_eq_nil_iff]
          intro i hi
          have:=List.mem_range.1 hi
          rw [L5,decide_eq_false (by omega)];simp
        rw [e];simp
      · rw [decide_eq_false h2,decide_eq_false h1,if_neg (show ¬ k < n + 1 by omega)];rfl
theorem neg_bit (k q : Nat) (hm : 2 ^ (k + 1) * q + 2 ^ k < 4294967296) : ((2 ^ (k + 1) * q + 2 ^ k) &&& (4294967296 - (2 ^ (k + 1) * q + 2 ^ k))) = 2 ^ k:=by
  have h1 : 0 < 2 ^ k:=Nat.pow_pos (by decide)
  apply Nat.eq_of_testBit_eq
  intro j
  have e : 4294967296 - (2 ^ (k + 1) * q + 2 ^ k) = 2 ^ 32 - ((2 ^ (k + 1) * q + 2 ^ k - 1) + 1):=by
    have : 4294967296 = 2 ^ 32:=by decide
    omega
  rw [Nat.testBit_and,e,Nat.testBit_two_pow_sub_succ (by omega),vC,Q2,Nat.testBit_two_pow]
  by_cases h2 : j = k
  · subst h2
    have : j < 32:=by
      rcases Nat.lt_or_ge j 32 with h | h
      · exact h
      · have:=Nat.pow_le_pow_right (by decide : 0 < 2) h
        omega
    simp [this]
  · rw [decide_eq_false h2,decide_eq_false (by omega : ¬ k = j)]
    by_cases h3 : k < j
    · rw [decide_eq_true h3,decide_eq_false (by omega : ¬ j < k)]
      cases q.testBit (j - (k + 1)) <;> simp
    · rw [decide_eq_false h3];simp
theorem low (m : Nat) (h0 : m ≠ 0) (hm : m < 4294967296) : ∃ k,k ≤ 31 ∧ ids m 32 = k :: ids (rest m) 32 ∧ (m &&& (4294967296 - m)) = 2 ^ k ∧ rest m < m:=by
  obtain ⟨k,q,rfl⟩:=YH m (by omega)
  have h1 : 0 < 2 ^ k:=Nat.pow_pos (by decide)
  have hk : k < 32:=by
    rcases Nat.lt_or_ge k 32 with h | h
    · exact h
    · have:=Nat.pow_le_pow_right (by decide : 0 < 2) h
      omega
  refine ⟨k,by omega,?_,neg_bit k q hm,?_⟩
  · have:=J8 k q 32
    rw [if_pos hk] at this
    exact this
  · unfold rest
    exact Nat.lt_of_le_of_lt Nat.and_le_right (by omega)
theorem ids_zero (n : Nat) : ids 0 n = []:=by simp [ids]
theorem count_zero : count 0 = 0:=by simp [count,ids_zero]
theorem count_rest (m : Nat) (h0 : m ≠ 0) (hm : m < 4294967296) : count m = count (rest m) + 1:=by
  obtain ⟨k,_,h,_⟩:=low m h0 hm
  unfold count
  rw [h];rfl
theorem count_le (m : Nat) : count m ≤ 32:=ids_len m 32
theorem least_low (m k : Nat) (l : List Nat) (h : ids m 32 = k :: l) : least m = k:=by unfold least;rw [h]
theorem within_not (a b : Nat) (ha : a < 4294967296) (hb : b < 4294967296) : within a b 32 = decide ((a &&& (4294967295 - b)) = 0):=by
  have hbit : ∀ i,(4294967295 - b).testBit i = (decide (i < 32) && !b.testBit i):=fun i => by
    have:=Nat.testBit_two_pow_sub_succ (n:=32) (x:=b) hb i
    rw [← this,show 2 ^ 32 - (b + 1) = 4294967295 - b by omega]
  rw [Bool.eq_iff_iff,within_iff,decide_eq_true_iff]
  constructor
  · intro h
    apply Nat.eq_of_testBit_eq
    intro i
    rw [Nat.testBit_and,hbit,Nat.zero_testBit]
    rcases Nat.lt_or_ge i 32 with hi | hi
    · cases h1 : a.testBit i
      · rfl
      · rw [h i hi h1];simp
    · rw [bit_high a i ha hi];rfl
  · intro h i hi h1
    have:=congrArg (·.testBit i) h
    simp only [Nat.testBit_and,hbit,h1,Nat.zero_testBit,decide_eq_true hi,Bool.true_and] at this
    simpa using this
theorem has_one (m : Nat) (id : Int) : has m id = decide ((m &&& one id) ≠ 0):=by
  by_cases h : 0 ≤ id ∧ id ≤ 31
  · obtain ⟨n,rfl⟩ : ∃ n : Nat,id = (n : Int):=⟨id.toNat,by omega⟩
    have hn : n ≤ 31:=by omega
    rw [has_in m n hn,one_nat n hn,Bool.eq_iff_iff,decide_eq_true_iff]
    constructor
    · intro h1 h2
      have:=congrArg (·.testBit n) h2
      simp [Nat.testBit_and,h1] at this
    · intro h1
      cases h2 : m.testBit n
      · exfalso
        apply h1
        apply Nat.eq_of_testBit_eq
        intro i
        rw [Nat.testBit_and,Nat.testBit_two_pow,Nat.zero_testBit]
        by_cases hi : n = i
        · subst hi;rw [h2];rfl
        · rw [decide_eq_false hi,Bool.and_false]
      · rfl
  · rw [has_out m id (by omega),one_out id (by omega)];simp
end Go.Proofs.YtoekiejipdabmaaDoor.S
namespace Go.Proofs.YtoekiejipdabmaaDoor
open Go.RowKit
set_option maxRecDepth 100000 in
set_option maxHeartbeats 800000 in
theorem jQ (m : Nat) (hm : m < 4294967296) (id : Int) (hid : -9223372036854775808 ≤ id ∧ id ≤ 9223372036854775807) (b : Bool) (hb : S.has m id = b) (w : World) :
    Calls Tryd.prog 16 #[.int .u32 (m : Int),.int .i64 id] w fun e w' => e = .returned (.bool b) ∧ w = w':=by
  have HB:=kp hb
  obtain ⟨hid1,hid2⟩:=hid
  clear hb
  by_cases h : id < 0 ∨ 31 < id
  · have HF : Kept (false = b):=kp <| by rw [← HB.out,S.has_out m id h]
    by_cases h0 : id < 0
    · clear h
      go_enter Tryd.func16,Tryd.ntmps16
      go_wp2
      go_ret
      exact ⟨jG HF.out,rfl⟩
    · have h1 : 31 < id:=h.resolve_left h0
      clear h
      go_enter Tryd.func16,Tryd.ntmps16
      go_wp2
      go_ret
      exact ⟨jG HF.out,rfl⟩
  · obtain ⟨n,rfl⟩ : ∃ n : Nat,id = (n : Int):=⟨id.toNat,by omega⟩
    have hn : n ≤ 31:=by omega
    have HT : Kept (decide (m / 2 ^ n % 2 = 1) = b):=kp <| by rw [← HB.out,S.has_in m n hn,S.bit_div]
    clear h hid1 hid2
    go_enter Tryd.func16,Tryd.ntmps16
    go_wp2
    go_loop [5,6] (fun v5 v6 => ∃ k : Nat,k ≤ n ∧ v6 = .int .i64 k ∧ v5 = .int .u64 ((m / 2 ^ k : Nat) : Int)) (fun _ v6 => n - (intOf v6).toNat)
    case atStart => exact ⟨0,by omega,rfl,by simp⟩
    case round =>
      obtain ⟨k,hk,rfl,rfl⟩:=hrel
      have hle : m / 2 ^ k ≤ m:=Nat.div_le_self _ _
      have HN : Kept (m / 2 ^ k / 2 = m / 2 ^ (k + 1)):=kp <| by rw [Nat.div_div_eq_div_mul,Nat.pow_succ]
      by_cases hlt : k < n
      · generalize m / 2 ^ k = q at *
        go_wp2
        go_round
        case rel => exact ⟨k + 1,by omega,by go_num,by rw [← HN.out];go_num⟩
        case measure => simp [intOf];omega
      · have HQ : Kept (decide (m / 2 ^ k % 2 = 1) = b):=kp <| by rw [show k = n by omega];exact HT.out
        generalize m / 2 ^ k = q at *
        go_wp2
        go_ret
        refine ⟨jG ?_,rfl⟩
        rw [← HQ.out,Bool.eq_iff_iff]
        simp
        omega
set_option maxRecDepth 100000 in
set_option maxHeartbeats 800000 in
theorem qQ (a b : Nat) (ha : a < 4294967296) (hb : b < 4294967296) (r : Bool) (hr : S.within a b 32 = r) (w : World) :
    Calls Tryd.prog 25 #[.int .u32 (a : Int),.int .u32 (b : Int)] w fun e w' => e = .returned (.bool r) ∧ w = w':=by
  have HR:=kp hr;clear hr
  go_enter Tryd.func25,Tryd.ntmps25
  go_wp2
  go_loop [5] (fun v5 => ∃ k : Nat,k ≤ 32 ∧ v5 = .int .i64 k ∧ S.within a b k = true) (fun v5 => 32 - (intOf v5).toNat)
  case atStart => exact ⟨0,by omega,rfl,rfl⟩
  case round =>
    obtain ⟨k,hk,rfl,hw⟩:=hrel
    have HW:=kp hw;clear hw
    by_cases hlt : k < 32
    · obtain ⟨x,hx⟩ : ∃ x,a.testBit k = x:=⟨_,rfl⟩
      obtain ⟨y,hy⟩ : ∃ y,b.testBit k = y:=⟨_,rfl⟩
      have HN : Kept (S.within a b (k + 1) = (!x || y)):=kp <| by rw [S.within_succ,HW.out,hx,hy];simp
      have HNo : Kept ((!x || y) = false → r = false):=kp <| fun h => by
        rw [← HR.out]
        rw [h] at HN
        cases hr : S.within a b 32
        · rfl
        · exfalso
          rw [S.within_iff] at hr
          have hxt : x = true:=by cases x <;> simp_all
          have:=hr k hlt (by rw [hx,hxt])
          rw [hy] at this
          rw [hxt,this] at h;cases h
      have HX:=kp ((S.has_in a k (by omega)).trans hx);have HY:=kp ((S.has_in b k (by omega)).trans hy)
      clear hx hy
      cases x
      · go_wp2_with (go_at_call 16;go_must (refine (jQ a ha k (by omega) _ HX.out _).mono ?_);rintro e w' ⟨rfl,rfl⟩)
        go_round
        case rel => exact ⟨k + 1,by omega,by go_num,by rw [HN.out];rfl⟩
        case measure => simp [intOf];omega
      · cases y
        · go_wp2_with (first | (go_at_call_of 16 (Value.int IntKind.u32 (a : Int));go_must (refine (jQ a ha k (by omega) _ HX.out _).mono ?_);rintro e w' ⟨rfl,rfl⟩) | (go_at_call 16;go_must (refine (jQ b hb k (by omega) _ HY.out _).mono ?_);rintro e w' ⟨rfl,rfl⟩))
          go_ret
          exact ⟨jG (HNo.out rfl).symm,rfl⟩
        · go_wp2_with (first | (go_at_call_of 16 (Value.int IntKind.u32 (a : Int));go_must (refine (jQ a ha k (by omega) _ HX.out _).mono ?_);rintro e w' ⟨rfl,rfl⟩) | (go_at_call 16;go_must (refine (jQ b hb k (by omega) _ HY.out _).mono ?_);rintro e w' ⟨rfl,rfl⟩))
          go_round
          case rel => exact ⟨k + 1,by omega,by go_num,by rw [HN.out];rfl⟩
          case measure => simp [intOf];omega
    · have hk2 : 32 ≤ k:=by omega
      have HT : Kept (true = r):=kp <| by rw [← HR.out,← HW.out,show k = 32 by omega]
      clear hlt hk
      go_wp2
      go_ret
      exact ⟨jG HT.out,rfl⟩
theorem uG (k : Nat) (h : k ≤ 31) : 2 ^ k ≤ 2147483648:=Nat.pow_le_pow_right (by decide) h
theorem pow_cast (n : Nat) : (2 : Int) ^ n = ((2 ^ n : Nat) : Int):=(Int.natCast_pow 2 n).symm
theorem ne_cast (x : Nat) : (((x : Nat) : Int) != 0) = decide (x ≠ 0):=by rw [Bool.eq_iff_iff];simp
theorem eq_cast (x : Nat) : (((x : Nat) : Int) == 0) = decide (x = 0):=by rw [Bool.eq_iff_iff];simp
set_option maxRecDepth 100000 in
set_option maxHeartbeats 800000 in
theorem lS (id : Int) (hid : -9223372036854775808 ≤ id ∧ id ≤ 9223372036854775807) (m : Nat) (hm : S.one id = m) (w : World) :
    Calls Tryd.prog 35 #[.int .i64 id] w fun e w' => e = .returned (.int .u32 (m : Int)) ∧ w = w':=by
  have HM:=kp hm;clear hm
  obtain ⟨hid1,hid2⟩:=hid
  by_cases h : id < 0
  · have HF : Kept (0 = m):=kp <| by rw [← HM.out,S.one_out id (.inl h)]
    go_enter Tryd.func35,Tryd.ntmps35
    go_wp2
    go_ret
    exact ⟨l7 (by rw [← HF.out];rfl),rfl⟩
  · by_cases h2 : 31 < id
    · have HF : Kept (0 = m):=kp <| by rw [← HM.out,S.one_out id (.inr h2)]
      go_enter Tryd.func35,Tryd.ntmps35
      go_wp2
      go_ret
      exact ⟨l7 (by rw [← HF.out];rfl),rfl⟩
    · obtain ⟨n,rfl⟩ : ∃ n : Nat,id = (n : Int):=⟨id.toNat,by omega⟩
      have hn : n ≤ 31:=by omega
      have HF : Kept (2 ^ n = m):=kp <| by rw [← HM.out,S.one_nat n hn]
      have hp:=uG n hn
      clear h h2 hid1 hid2
      go_enter Tryd.func35,Tryd.ntmps35
      go_wp2
      go_ret
      refine ⟨l7 ?_,rfl⟩
      rw [← HF.out,pow_cast]
      generalize 2 ^ n = p at *
      omega
set_option maxRecDepth 100000 in
set_option maxHeartbeats 800000 in
theorem yJ (m : Nat) (hm : m < 4294967296) (id : Int) (hid : -9223372036854775808 ≤ id ∧ id ≤ 9223372036854775807) (b : Bool) (hb : S.has m id = b) (w : World) :
    Calls Tryd.prog 34 #[.int .u32 (m : Int),.int .i64 id] w fun e w' => e = .returned (.bool b) ∧ w = w':=by
  have HB : Kept (decide ((m &&& S.one id) ≠ 0) = b):=kp <| by rw [← hb,S.has_one]
  have HI:=kp hid
  have ho:=S.one_lt id
  obtain ⟨o,he⟩ : ∃ o,S.one id = o:=⟨_,rfl⟩
  have HE:=kp he
  rw [he] at ho
  have HA : Kept (decide ((m &&& o) ≠ 0) = b):=kp <| by rw [← HE.out];exact HB.out
  have HBits : Kept (bits .and .u32 (m : Int) (o : Int) = ((m &&& o : Nat) : Int)):=kp <| u32_and_nat m o hm ho
  clear he hb hid
  go_enter Tryd.func34,Tryd.ntmps34
  go_wp2_with (go_at_call 35;go_must (refine (lS id HI.out o HE.out _).mono ?_);rintro e w' ⟨rfl,rfl⟩)
  go_ret
  refine ⟨jG ?_,rfl⟩
  rw [← HA.out]
  rw [HBits.out,ne_cast]
set_option maxRecDepth 100000 in
set_option maxHeartbeats 800000 in
theorem jV (a b : Nat) (ha : a < 4294967296) (hb : b < 4294967296) (r : Bool) (hr : S.within a b 32 = r) (w : World) :
    Calls Tryd.prog 38 #[.int .u32 (a : Int),.int .u32 (b : Int)] w fun e w' => e = .returned (.bool r) ∧ w = w':=by
  have HA : Kept (decide ((a &&& (4294967295 - b)) = 0) = r):=kp <| by rw [← hr,S.within_not a b ha hb]
  have HBits : Kept (bits .andNot .u32 (a : Int) (b : Int) = ((a &&& (4294967295 - b) : Nat) : Int)):=kp <| u32_andNot_nat a b ha hb
  clear hr
  go_enter Tryd.func38,Tryd.ntmps38
  go_wp2
  go_ret
  refine ⟨jG ?_,rfl⟩
  rw [← HA.out]
  rw [HBits.out,eq_cast]
set_option maxRecDepth 100000 in
set_option maxHeartbeats 800000 in
theorem L6 (m : Nat) (hm : m < 4294967296) (h0 : m ≠ 0) (r : Nat) (hr : S.rest m = r) (w : World) :
    Calls Tryd.prog 76 #[.int .u32 (m : Int)] w fun e w' => e = .returned (.int .u32 (r : Int)) ∧ w = w':=by
  have HA : Kept ((m &&& (m - 1)) = r):=kp <| by rw [← hr];rfl
  have HBits : Kept (bits .and .u32 (m : Int) ((m : Int) - 1) = ((m &&& (m - 1) : Nat) : Int)):=kp <| by rw [← u32_and_nat m (m - 1) hm (by omega)];congr 1;omega
  clear hr
  go_enter Tryd.func76,Tryd.ntmps76
  go_wp2
  go_ret
  refine ⟨l7 ?_,rfl⟩
  rw [← HA.out]
  exact HBits.out
set_option maxRecDepth 100000 in
set_option maxHeartbeats 1600000 in
theorem yW (n : Nd) (hn : n.Ok) (h ex : Nat) (hh : h < 4294967296) (lost : Int) (hl : I64 lost) (b : Bool) (r : Nat) (hr : Ma.behind n h ex lost b = r) (w : World) :
    Calls Tryd.prog 18 #[ndA n,.int .u32 (h : Int),.int .u32 (ex : Int),.int .i64 lost,.bool b] w fun e w' => e = .returned (.int .u32 (r : Int)) ∧ Below w.heap.size w w':=by
  have HR:=kp hr;have HNr:=kp hn.arg;have HNa:=kp hn.alt;have HLo:=kp hl
  clear hr hn hl
  rw [show ndA n = .agg (ndC n).toArray from rfl]
  obtain ⟨q,hqe⟩ : ∃ q,S.one lost = q:=⟨_,rfl⟩
  have hq : q < 4294967296:=by rw [← hqe];exact S.one_lt _
  obtain ⟨qa,hqae⟩ : ∃ q,S.one n.alt = q:=⟨_,rfl⟩
  have hqa : qa < 4294967296:=by rw [← hqae];exact S.one_lt _
  obtain ⟨qr,hqre⟩ : ∃ q,S.one n.arg = q:=⟨_,rfl⟩
  have hqr : qr < 4294967296:=by rw [← hqre];exact S.one_lt _
  have HQl:=kp hqe;have HQa:=kp hqae;have HQr:=kp hqre
  clear hqe hqae hqre
  obtain ⟨hb,hhb⟩ : ∃ q,S.has h n.alt = q:=⟨_,rfl⟩
  have HHas:=kp hhb
  clear hhb
  go_enter Tryd.func18,Tryd.ntmps18
  by_cases h5 : n.kind = 5
  · have hk : (n.kind == 5) = true:=by simpa using h5
    cases b with
    | true =>
      have HE : Kept ((h ||| q) ||| qa = r):=kp (by rw [← HR.out,← HQl.out,← HQa.out];unfold Ma.behind;rw [if_pos h5,if_pos (by simp)])
      have hor : bits .or .u32 (h : Int) (q : Int) = ((h ||| q : Nat) : Int):=u32_or_nat h q hh hq
      have hlt : h ||| q < 4294967296:=Nat.or_lt_two_pow (n:=32) hh hq
      obtain ⟨z,hz⟩ : ∃ z,h ||| q = z:=⟨_,rfl⟩
      rw [hz] at hor hlt HE
      have hor2 : bits .or .u32 (z : Int) (qa : Int) = ((z ||| qa : Nat) : Int):=u32_or_nat z qa hlt hqa
      clear h5 hz
      go_wp2_with (first
        | ((with_reducible refine j4 rfl 66 (.tmp 0) rfl (ndC n) rfl ?_);intro g1 w1 hg1 hk1 hw1;obtain ⟨hc0,hc1,hc2,hc3⟩:=jB hk1;have HW1:=kp hw1;clear hg1 hk1 hw1)
        | (go_at_call_of 35 (Value.int .i64 lost);go_must (refine (lS lost HLo.out q HQl.out _).mono ?_);rintro e w3 ⟨rfl,rfl⟩)
        | (go_at_call_of 35 (Value.int .i64 n.alt);go_must (refine (lS n.alt HNa.out qa HQa.out _).mono ?_);rintro e w3 ⟨rfl,rfl⟩))
      go_ret
      exact ⟨by rw [← HE.out];rfl,HW1.out⟩
    | false =>
      cases hb with
      | true =>
        have HE : Kept ((h ||| q) ||| qa = r):=kp (by rw [← HR.out,← HQl.out,← HQa.out];unfold Ma.behind;rw [if_pos h5,if_pos (by rw [HHas.out];rfl)])
        have hor : bits .or .u32 (h : Int) (q : Int) = ((h ||| q : Nat) : Int):=u32_or_nat h q hh hq
        have hlt : h ||| q < 4294967296:=Nat.or_lt_two_pow (n:=32) hh hq
        obtain ⟨z,hz⟩ : ∃ z,h ||| q = z:=⟨_,rfl⟩
        rw [hz] at hor hlt HE
        have hor2 : bits .or .u32 (z : Int) (qa : Int) = ((z ||| qa : Nat) : Int):=u32_or_nat z qa hlt hqa
        clear h5 hz
        go_wp2_with (first
          | ((with_reducible refine j4 rfl 66 (.tmp 0) rfl (ndC n) rfl ?_);intro g1 w1 hg1 hk1 hw1;obtain ⟨hc0,hc1,hc2,hc3⟩:=jB hk1;have HW1:=kp hw1;clear hg1 hk1 hw1)
          | (go_at_call 34;go_must (refine (yJ h hh n.alt HNa.out true HHas.out _).mono ?_);rintro e w3 ⟨rfl,rfl⟩)
          | (go_at_call_of 35 (Value.int .i64 lost);go_must (refine (lS lost HLo.out q HQl.out _).mono ?_);rintro e w3 ⟨rfl,rfl⟩)
          | (go_at_call_of 35 (Value.int .i64 n.alt);go_must (refine (lS n.alt HNa.out qa HQa.out _).mono ?_);rintro e w3 ⟨rfl,rfl⟩))
        go_ret
        exact ⟨by rw [← HE.out];rfl,HW1.out⟩
      | false =>
        have HE : Kept (h ||| qa = r):=kp (by rw [← HR.out,← HQa.out];unfold Ma.behind;rw [if_pos h5,if_neg (by rw [HHas.out];simp)])
        have hor2 : bits .or .u32 (h : Int) (qa : Int) = ((h ||| qa : Nat) : Int):=u32_or_nat h qa hh hqa
        clear h5
        go_wp2_with (first
          | ((with_reducible refine j4 rfl 66 (.tmp 0) rfl (ndC n) rfl ?_);intro g1 w1 hg1 hk1 hw1;obtain ⟨hc0,hc1,hc2,hc3⟩:=jB hk1;have HW1:=kp hw1;clear hg1 hk1 hw1)
          | (go_at_call 34;go_must (refine (yJ h hh n.alt HNa.out false HHas.out _).mono ?_);rintro e w3 ⟨rfl,rfl⟩)
          | (go_at_call_of 35 (Value.int .i64 n.alt);go_must (refine (lS n.alt HNa.out qa HQa.out _).mono ?_);rintro e w3 ⟨rfl,rfl⟩))
        go_ret
        exact ⟨by rw [← HE.out];rfl,HW1.out⟩
  have hk5 : (n.kind == 5) = false:=by simpa using h5
  by_cases h6 : n.kind = 6
  · have hk : (n.kind == 6) = true:=by simpa using h6
    have HE : Kept (h &&& (4294967295 - qr) = r):=kp (by rw [← HR.out,← HQr.out];unfold Ma.behind;rw [if_neg h5,if_pos h6])
    have hor : bits .andNot .u32 (h : Int) (qr : Int) = ((h &&& (4294967295 - qr) : Nat) : Int):=u32_andNot_nat h qr hh hqr
    clear h5 h6
    go_wp2_with (first
      | ((with_reducible refine j4 rfl 66 (.tmp 0) rfl (ndC n) rfl ?_);intro g1 w1 hg1 hk1 hw1;obtain ⟨hc0,hc1,hc2,hc3⟩:=jB hk1;have HW1:=kp hw1;clear hg1 hk1 hw1)
      | (go_at_call 35;go_must (refine (lS n.arg HNr.out qr HQr.out _).mono ?_);rintro e w3 ⟨rfl,rfl⟩))
    go_ret
    exact ⟨by rw [← HE.out];rfl,HW1.out⟩
  have hk6 : (n.kind == 6) = false:=by simpa using h6
  by_cases h7 : n.kind = 7
  · have hk : (n.kind == 7) = true:=by simpa using h7
    have HE : Kept (ex = r):=kp (by rw [← HR.out];unfold Ma.behind;rw [if_neg h5,if_neg h6,if_pos h7])
    clear h5 h6 h7
    go_wp2_with (first
      | ((with_reducible refine j4 rfl 66 (.tmp 0) rfl (ndC n) rfl ?_);intro g1 w1 hg1 hk1 hw1;obtain ⟨hc0,hc1,hc2,hc3⟩:=jB hk1;have HW1:=kp hw1;clear hg1 hk1 hw1))
    go_ret
    exact ⟨by rw [← HE.out];rfl,HW1.out⟩
  · have hk : (n.kind == 7) = false:=by simpa using h7
    have HE : Kept (h = r):=kp (by rw [← HR.out];unfold Ma.behind;rw [if_neg h5,if_neg h6,if_neg h7])
    clear h5 h6 h7
    go_wp2_with (first
      | ((with_reducible refine j4 rfl 66 (.tmp 0) rfl (ndC n) rfl ?_);intro g1 w1 hg1 hk1 hw1;obtain ⟨hc0,hc1,hc2,hc3⟩:=jB hk1;have HW1:=kp hw1;clear hg1 hk1 hw1))
    go_ret
    exact ⟨by rw [← HE.out];rfl,HW1.out⟩
set_option maxRecDepth 100000 in
set_option maxHeartbeats 800000 in
theorem uJ (p : Pg) (w : World) : Calls Tryd.prog 11 #[pgA p] w fun e w' => e = .returned (.int .i64 p.s) ∧ Below w.heap.size w w':=by
  rw [jM]
  go_enter Tryd.func11,Tryd.ntmps11
  go_wp2_with (first
    | ((with_reducible refine j4 rfl 24 (.tmp 0) rfl (pgC p) rfl ?_);intro g1 w1 hg1 hk1 hw1;obtain ⟨hc0,hc1,hc2,hc3⟩:=j8 hk1;have HW1:=kp hw1;clear hg1 hk1 hw1))
  go_ret
  exact ⟨rfl,HW1.out⟩
theorem may_two : Ma.behind ⟨5,0,0,1⟩ 0 0 2 false = 2:=by kernel_rfl
set_option maxRecDepth 100000 in
set_option maxHeartbeats 1600000 in
theorem jP (w : World) : Calls Tryd.prog 7 #[] w fun e w' => e = .returned (.bool true) ∧ Below w.heap.size w w':=by
  have hi : I64 0:=by unfold I64;omega
  have h1 : I64 1:=by unfold I64;omega
  have h2 : I64 2:=by unfold I64;omega
  have h5 : I64 5:=by unfold I64;omega
  have HN : Kept ((⟨5,0,0,1⟩ : Nd).Ok):=kp ⟨h5,hi,hi,h1⟩
  have HL:=kp h2
  clear hi h1 h2 h5
  go_enter Tryd.func7,Tryd.ntmps7
  go_wp2_with fail
  refine (yW ⟨5,0,0,1⟩ HN.out 0 0 (by omega) 2 HL.out false 2 may_two w).mono ?_
  rintro e w1 ⟨rfl,hb1⟩
  have HB1:=kp hb1
  have hs1:=hb1.size
  clear hb1
  go_wp2_with fail
  refine (uJ ⟨0,0,2,none,0,0,[]⟩ w1).mono ?_
  rintro e w2 ⟨rfl,hb2⟩
  have HB2:=kp (HB1.out.trans (hb2.mono hs1))
  clear hb2
  go_wp2
  go_ret
  exact ⟨rfl,HB2.out⟩
def names (kind : Int) (id : Nat) (nd : Nd) : Bool:=decide (nd.kind = kind) && decide (nd.arg = (id : Int))
def namedTo (l : List Nd) (kind : Int) (m : Nat) : List Nat:=(List.range m).filter fun id => l.any (names kind id)
def namedL (l : List Nd) (kind : Int) : List Nat:=namedTo l kind 32
theorem zH (l : List Nd) (kind : Int) (m : Nat) : namedTo l kind (m + 1) = namedTo l kind m ++ (if l.any (names kind m) then [m] else []):=by
  unfold namedTo
  rw [List.range_succ,List.filter_append]
  by_cases h : l.any (names kind m) <;> simp [h]
theorem vI (l : List Nd) (kind : Int) (m : Nat) : (namedTo l kind m).length ≤ m:=by
  have:=List.length_filter_le (fun id => l.any (names kind id)) (List.range m)
  simpa [namedTo] using this
theorem any_snoc (l : List Nd) (f : Nd → Bool) (i : Nat) (x : Nd) (h : l[i]? = some x) : (l.take (i + 1)).any f = ((l.take i).any f || f x):=by
  rw [List.take_add_one,h,List.any_append];simp
theorem J6 {l : List Nd} {kind : Int} {y : Nat} : y ∈ namedL l kind ↔ y < 32 ∧ ∃ nd ∈ l,nd.kind = kind ∧ nd.arg = (y : Int):=by
  unfold namedL namedTo names
  simp [List.mem_filter,List.any_eq_true]
set_option maxRecDepth 100000 in
set_option maxHeartbeats 1600000 in
theorem Y7 (B : Nat) (A : Option Addr) (n c : Nat) (l : List Nd) (kind : Int) (w : World) (hr : Nodes w B A n l) (hn : n ≤ 1000000) (hB : B ≤ w.heap.size) :
    Calls Tryd.prog 78 #[.slice A n c,.int .i64 kind] w fun e w' => ∃ v,e = .returned v ∧ Own w' w.heap.size 3 v ((namedL l kind).map natV) ∧ Below w.heap.size w w':=by
  have HR:=kp hr
  have HLn:=kp hr.1.len
  clear hr
  go_enter Tryd.func78,Tryd.ntmps78
  go_wp2
  go_loopw [5,6] (fun v5 v6 wr => ∃ m : Nat,m ≤ 32 ∧ v6 = .int .i64 m ∧ Own wr w.heap.size 3 v5 ((namedTo l kind m).map natV) ∧ Below w.heap.size w wr) (fun _ v6 _ => 32 - (intOf v6).toNat)
  case atStart => exact ⟨0,by omega,rfl,Own.nil _ _ _,Below.refl _ _⟩
  case round =>
    obtain ⟨m,hm,rfl,hown,hbw⟩:=hrel
    have HOwn:=kp hown;have HBw:=kp hbw
    have HRw : Kept (Nodes wr B A n l):=kp (HR.out.keep fun p hp => hbw.cell (by omega))
    have hsz:=hbw.size
    have hml:=vI l kind m
    clear hown hbw
    by_cases hlt : m < 32
    · go_wp2
      go_loop [7,8] (fun v7 v8 => ∃ (i : Nat) (b : Bool),i ≤ n ∧ v8 = .int .i64 i ∧ v7 = .bool b ∧ b = (l.take i).any (names kind m)) (fun _ v8 => n - (intOf v8).toNat)
      case atStart => exact ⟨0,false,by omega,rfl,rfl,by simp⟩
      case round =>
        obtain ⟨i,b,hi,rfl,rfl,hany⟩:=hrel
        have HAny:=kp hany
        clear hany
        by_cases hlti : i < n
        · obtain ⟨ad,nd,rfl,_,hnd,_,he0,he1,_,_⟩:=HRw.out.get hlti
          have HN : Kept ((l.take (i + 1)).any (names kind m) = (b || names kind m nd)):=kp (by rw [any_snoc l _ i nd hnd,HAny.out])
          by_cases hk : nd.kind = kind
          · have hkb : (nd.kind == kind) = true:=by simpa using hk
            by_cases ha : nd.arg = (m : Int)
            · have hab : (nd.arg == (m : Int)) = true:=by simpa using ha
              have HNm : Kept (names kind m nd = true):=kp (by unfold names;rw [decide_eq_true hk,decide_eq_true ha];rfl)
              clear hnd hk ha
              cases b
              · go_wp2
                go_round
                case rel => exact ⟨i + 1,true,by omega,by go_num,rfl,by rw [HN.out,HNm.out];rfl⟩
                case measure => simp [intOf];omega
              · go_wp2
                go_round
                case rel => exact ⟨i + 1,true,by omega,by go_num,rfl,by rw [HN.out];rfl⟩
                case measure => simp [intOf];omega
            · have hab : (nd.arg == (m : Int)) = false:=by simpa using ha
              have HNm : Kept (names kind m nd = false):=kp (by unfold names;rw [decide_eq_false ha,Bool.and_false])
              clear hnd hk ha
              cases b
              · go_wp2
                go_round
                case rel => exact ⟨i + 1,false,by omega,by go_num,rfl,by rw [HN.out,HNm.out];rfl⟩
                case measure => simp [intOf];omega
              · go_wp2
                go_round
                case rel => exact ⟨i + 1,true,by omega,by go_num,rfl,by rw [HN.out];rfl⟩
                case measure => simp [intOf];omega
          · have hkb : (nd.kind == kind) = false:=by simpa using hk
            have HNm : Kept (names kind m nd = false):=kp (by unfold names;rw [decide_eq_false hk,Bool.false_and])
            clear hnd hk
            cases b
            · go_wp2
              go_round
              case rel => exact ⟨i + 1,false,by omega,by go_num,rfl,by rw [HN.out,HNm.out];rfl⟩
              case measure => simp [intOf];omega
            · go_wp2
              go_round
              case rel => exact ⟨i + 1,true,by omega,by go_num,rfl,by rw [HN.out];rfl⟩
              case measure => simp [intOf];omega
        · have HE : Kept (b = l.any (names kind m)):=kp (by rw [HAny.out,List.take_of_length_le (by rw [HLn.out];omega)])
          have hgei : n ≤ i:=by omega
          clear hlti
          cases b
          · have HN : Kept (namedTo l kind (m + 1) = namedTo l kind m):=kp (by rw [zH,if_neg (by rw [← HE.out];decide),List.append_nil])
            go_wp2
            go_roundw
            case rel => exact ⟨m + 1,by omega,by go_num,by rw [HN.out];exact HOwn.out,HBw.out⟩
            case measure => simp [intOf];omega
          · have HN : Kept (namedTo l kind (m + 1) = namedTo l kind m ++ [m]):=kp (by rw [zH,if_pos (by rw [← HE.out])])
            go_wp2_with (at_builtin;go_must (refine jO rfl (.tmp 39) (.tmp 41) 76 rfl w.heap.size 3 _ _ Tryd.underlying76 q6 rfl _ _ _ _ rfl HOwn.out _ 1 rfl rfl rfl (by simp [maxLen];omega) (by simp;omega) hsz ?_);intro v1 w5 hown1 hg1;have HO5:=kp hown1;clear hown1;have HG5:=kp hg1;clear hg1)
            go_roundw
            case rel => exact ⟨m + 1,by omega,by go_num,by rw [HN.out,List.map_append];exact HO5.out,HG5.out.below HBw.out HOwn.out hsz⟩
            case measure => simp [intOf];omega
    · have hme : m = 32:=by omega
      have HE : Kept (namedTo l kind m = namedL l kind):=kp (by rw [hme];rfl)
      have hge : 32 ≤ m:=by omega
      clear hlt hme
      go_wp2
      go_ret
      exact ⟨_,rfl,by rw [← HE.out];exact HOwn.out,HBw.out⟩
structure Fact where
  holds : Value → World → Prop
  stays : ∀ v w w',Below w.heap.size w w' → holds v w → holds v w'
def Fact.any : Fact:=⟨fun _ _ => True,fun _ _ _ _ h => h⟩
def Fact.is (c : Value) : Fact:=⟨fun v _ => v = c,fun _ _ _ _ h => h⟩
def slotOf (o : Oper) (a : Act) : Value:=match o.dst with
  | some d => a.tmps.getD d undef
  | none => undef
def PartPost (D : List Deferred) (W : World) (o : Oper) (R : Fact) : Exit → Act → World → Prop
  | .normal,a,w => a.defers = D ∧ Below W.heap.size W w ∧ R.holds (slotOf o a) w
  | _,_,_ => False
def factAt (R : List Fact) (i : Nat) : Fact:=R.getD i .any
def given (R : List Fact) (W : World) (G : Act → Prop) : List (Nat × Nat) → Act → Prop
  | [],a => G a
  | p :: ps,a => ∀ v,(factAt R p.1).holds v W → given R W G ps (a.put (some p.2) v)
def fill (a : Act) : List (Nat × Nat) → Act → Act
  | [],b => b
  | p :: ps,b => fill a ps (b.put (some p.2) (a.tmps.getD p.2 undef))
theorem xO {R : List Fact} {W : World} {G : Act → Prop} {a : Act} : ∀ (ps : List (Nat × Nat)) (b : Act),given R W G ps b → (∀ p ∈ ps,(factAt R p.1).holds (a.tmps.getD p.2 undef) W) → G (fill a ps b)
  | [],_,h,_ => h
  | p :: ps,_,h,hp => xO ps _ (h _ (hp p (List.mem_cons_self))) fun q hq => hp q (List.mem_cons_of_mem _ hq)
theorem xY (b : Act) (d : Option Tmp) (v : Value) : (b.put d v).tmps.size = b.tmps.size:=by cases d <;> simp [Act.put]
theorem xL (b : Act) (d : Option Tmp) (v : Value) : (b.put d v).defers = b.defers:=by cases d <;> rfl
theorem vA (a : Act) : ∀ (ps : List (Nat × Nat)) (b : Act),(fill a ps b).tmps.size = b.tmps.size
  | [],_ => rfl
  | _ :: ps,b => (vA a ps _).trans (xY b _ _)
theorem xD (a : Act) : ∀ (ps : List (Nat × Nat)) (b : Act),(fill a ps b).defers = b.defers
  | [],_ => rfl
  | _ :: ps,b => (xD a ps _).trans (xL b _ _)
theorem qK (b : Act) (d t : Nat) (v : Value) : (b.put (some d) v).tmps[t]? = if d = t ∧ t < b.tmps.size then some v else b.tmps[t]?:=by
  simp only [Act.put,Array.getElem?_setIfInBounds]
  by_cases h : d = t
  · subst h
    by_cases h1 : d < b.tmps.size
    · simp [h1]
    · simp [h1]
  · simp [h]
theorem yK (a : Act) : ∀ (ps : List (Nat × Nat)) (b : Act) (t : Nat),(fill a ps b).tmps[t]? = if t ∈ ps.map (·.2) ∧ t < b.tmps.size then some (a.tmps.getD t undef) else b.tmps[t]?
  | [],b,t => by simp [fill]
  | p :: ps,b,t => by
    rw [fill,yK a ps _ t,xY,qK]
    by_cases h1 : t ∈ ps.map (·.2) <;> by_cases h2 : t < b.tmps.size <;> by_cases h3 : p.2 = t
    all_goals first
      | (subst h3;simp [h1,h2];done)
      | (have h4 : ¬ t = p.2:=fun e => h3 e.symm
         simp [h1,h2,h3,h4])
def isSelect : Op → Bool
  | .select _ _ => true
  | _ => false
theorem LN {op : Op} (h : isSelect op = false) : ∀ cs b,op ≠ .select cs b:=by
  rintro cs b rfl;cases h
def waits (o : Oper) : List Nat:=(o.after.toList.filter fun e => Region.binds .any e).map (·.on)
def opOk (ops : Array Oper) (D : List (List (Nat × Nat))) (every : List (Nat × Nat)) (N i : Nat) (o : Oper) : Bool :=
  !isSelect o.op && (waits o).all (fun j => decide (j < i)) &&
  (match o.dst with
   | some d => decide (d < N) && every.contains (i,d) && (List.range ops.size).all (fun j => decide (j = i) || ((ops[j]?).bind (·.dst)) != some d)
   | none => true) &&
  (D.getD i []).all (fun p => ((ops[p.1]?).bind (·.dst)) == some p.2 && (waits o).contains p.1) &&
  (o.looksAt ops).all (fun t => (List.range ops.size).all fun j => ((ops[j]?).bind (·.dst)) != some t || (D.getD i []).contains (j,t) || ((ops[j]?).map fun oj => (waits oj).contains i).getD false)
def partsOk (ops : Array Oper) (D : List (List (Nat × Nat))) (every : List (Nat × Nat)) (N : Nat) : Bool :=
  (List.range ops.size).all (fun i => ((ops[i]?).map (opOk ops D every N i)).getD false) && every.all (fun p => ((ops[p.1]?).bind (·.dst)) == some p.2)
structure OpOk (ops : Array Oper) (D : List (List (Nat × Nat))) (every : List (Nat × Nat)) (N i : Nat) (o : Oper) : Prop where
  sel : ∀ cs b,o.op ≠ .select cs b
  back : ∀ e ∈ o.after,Region.binds .any e = true → e.on < i
  dst : ∀ d,o.dst = some d → d < N ∧ (i,d) ∈ every ∧ ∀ j oj,ops[j]? = some oj → j ≠ i → oj.dst ≠ some d
  deps : ∀ p ∈ D.getD i [],(∃ oj,ops[p.1]? = some oj ∧ oj.dst = some p.2) ∧ ∃ e ∈ o.after,Region.binds .any e = true ∧ e.on = p.1
  looks : ∀ t ∈ o.looksAt ops,∀ j oj,ops[j]? = some oj → oj.dst = some t → (j,t) ∈ D.getD i [] ∨ ∃ e ∈ oj.after,Region.binds .any e = true ∧ e.on = i
theorem yF {o : Oper} {j : Nat} : j ∈ waits o ↔ ∃ e ∈ o.after,Region.binds .any e = true ∧ e.on = j:=by
  simp only [waits,List.mem_map,List.mem_filter,Array.mem_toList_iff]
  constructor
  · rintro ⟨e,⟨h1,h2⟩,h3⟩;exact ⟨e,h1,h2,h3⟩
  · rintro ⟨e,h1,h2,h3⟩;exact ⟨e,⟨h1,h2⟩,h3⟩
theorem OpOk.of {ops : Array Oper} {D : List (List (Nat × Nat))} {every : List (Nat × Nat)} {N i : Nat} {o : Oper} (h : opOk ops D every N i o = true) : OpOk ops D every N i o:=by
  unfold opOk at h
  simp only [Bool.and_eq_true] at h
  obtain ⟨⟨⟨⟨h1,h2⟩,h3⟩,h4⟩,h5⟩:=h
  refine ⟨LN (by simpa using h1),fun e he hb => ?_,fun d hd => ?_,fun p hp => ?_,fun t ht j oj hj hd => ?_⟩
  · have:=List.all_eq_true.1 h2 e.on (yF.2 ⟨e,he,hb,rfl⟩)
    simpa using this
  · rw [hd] at h3
    simp only [Bool.and_eq_true,decide_eq_true_eq,List.contains_iff_mem] at h3
    refine ⟨h3.1.1,h3.1.2,fun j oj hj hne => ?_⟩
    have hlt : j < ops.size:=(Array.getElem?_eq_some_iff.1 hj).1
    have:=List.all_eq_true.1 h3.2 j (List.mem_range.2 hlt)
    rw [hj] at this
    simpa [hne] using this
  · have:=List.all_eq_true.1 h4 p hp
    simp only [Bool.and_eq_true,beq_iff_eq,List.contains_iff_mem] at this
    refine ⟨?_,yF.1 this.2⟩
    obtain ⟨oj,h6,h7⟩:=Option.bind_eq_some_iff.1 this.1
    exact ⟨oj,h6,h7⟩
  · have hlt : j < ops.size:=(Array.getElem?_eq_some_iff.1 hj).1
    have:=List.all_eq_true.1 (List.all_eq_true.1 h5 t ht) j (List.mem_range.2 hlt)
    rw [hj] at this
    simp only [Option.bind_some,hd,bne_self_eq_false,Bool.false_or,Option.map_some,Option.getD_some,Bool.or_eq_true,List.contains_iff_mem] at this
    rcases this with h | h
    · exact .inl h
    · exact .inr (yF.1 h)
section
variable {P : Program} {ops : Array Oper} {Q : Exit → Act → World → Prop} {a0 : Act} {w : World} {R : List Fact} {D : List (List (Nat × Nat))} {every : List (Nat × Nat)}
structure PInv (ops : Array Oper) (R : List Fact) (a0 : Act) (w : World) (listed : Array Bool) (a : Act) (W : World) : Prop where
  size : listed.size = ops.size
  ext : Below w.heap.size w W
  defs : a.defers = a0.defers
  tsz : a.tmps.size = a0.tmps.size
  got : ∀ j oj d,ops[j]? = some oj → oj.dst = some d → listed.getD j false = true → (factAt R j).holds (a.tmps.getD d undef) W
  old : ∀ t,(∀ j oj,ops[j]? = some oj → oj.dst = some t → listed.getD j false = false) → a.tmps[t]? = a0.tmps[t]?
  shut : ∀ j oj,ops[j]? = some oj → listed.getD j false = true → ∀ e ∈ oj.after,Region.binds .any e = true → listed.getD e.on false = true
theorem zK (a : Act) (t : Nat) (h : t < a.tmps.size) : a.tmps[t]? = some (a.tmps.getD t undef):=by
  simp [h]
theorem yL : ∀ (l : List Bool) (i : Nat),l[i]? = some false → (l.set i true).count false + 1 = l.count false
  | [],i,h => by simp at h
  | b :: l,0,h => by
    simp at h;subst h
    simp
  | b :: l,i + 1,h => by
    have:=yL l i (by simpa using h)
    cases b <;> simp <;> omega
theorem yY (hok : ∀ i o,ops[i]? = some o → OpOk ops D every a0.tmps.size i o) {listed : Array Bool} (hs : listed.size = ops.size) (hr : Region.ready .any ops listed = []) :
    ∀ j,j < ops.size → listed.getD j false = true:=by
  intro j
  induction j using Nat.strongRecOn with
  | _ j ih =>
    intro hj
    cases hl : listed.getD j false
    · exfalso
      have hl2 : listed.getD j true = false:=by
        have : j < listed.size:=by omega
        simp [this] at hl ⊢;exact hl
      have hm : j ∈ Region.ready .any ops listed:=mem_ready.2 ⟨hl2,ops[j],Array.getElem?_eq_getElem hj,fun e he hb =>
        have hlt:=(hok j _ (Array.getElem?_eq_getElem hj)).back e he hb
        ih e.on hlt (by omega)⟩
      rw [hr] at hm
      cases hm
    · rfl
theorem PInv.step {listed : Array Bool} {a : Act} {W W' : World} {i : Nat} {o : Oper} {v : Value} (h : PInv ops R a0 w listed a W) (hi : ops[i]? = some o) (hok : OpOk ops D every a0.tmps.size i o)
    (hr : i ∈ Region.ready .any ops listed) (hb : Below W.heap.size W W') (hv : ∀ d,o.dst = some d → (factAt R i).holds v W') : PInv ops R a0 w (listed.setIfInBounds i true) (a.put o.dst v) W':=by
  obtain ⟨hl,o',ho',hall⟩:=mem_ready.1 hr
  have hoo : o' = o:=by rw [hi] at ho';cases ho';rfl
  subst hoo
  have hilt : i < ops.size:=(Array.getElem?_eq_some_iff.1 hi).1
  have hii : (listed.setIfInBounds i true).getD i false = true:=by
    have : i < listed.size:=by rw [h.size];exact hilt
    simp [this]
  refine ⟨by simp [h.size],h.ext.trans (hb.mono h.ext.size),(xL _ _ _).trans h.defs,(xY _ _ _).trans h.tsz,fun j oj d hj hd hlj => ?_,fun t ht => ?_,fun j oj hj hlj e he hbe => ?_⟩
  · by_cases hji : j = i
    · subst hji
      have : oj = o':=by rw [hi] at hj;cases hj;rfl
      subst this
      have hlt:=(hok.dst d hd).1
      rw [hd]
      have e1 : (a.put (some d) v).tmps.getD d undef = v:=by
        have:=qK a d d v
        rw [if_pos ⟨rfl,by rw [h.tsz];exact hlt⟩] at this
        simp [Array.getD_eq_getD_getElem?,this]
      rw [e1]
      exact hv d hd
    · have h1:=h.got j oj d hj hd (by rw [getD_set_ne false (Ne.symm hji)] at hlj;exact hlj)
      have e1 : (a.put o'.dst v).tmps.getD d undef = a.tmps.getD d undef:=by
        cases hod : o'.dst with
        | none => rfl
        | some d' =>
          have hne : d' ≠ d:=fun e => (hok.dst d' hod).2.2 j oj hj hji (by rw [e];exact hd)
          have:=qK a d' d v
          rw [if_neg (fun hh => hne hh.1)] at this
          simp [Array.getD_eq_getD_getElem?,this]
      rw [e1]
      exact (factAt R j).stays _ _ _ hb h1
  · have h1:=h.old t fun j oj hj hd => by
      have:=ht j oj hj hd
      by_cases hji : j = i
      · subst hji;rw [hii] at this;cases this
      · rwa [getD_set_ne false (Ne.symm hji)] at this
    cases hod : o'.dst with
    | none => exact h1
    | some d' =>
      have hne : d' ≠ t:=fun e => by
        have:=ht i o' hi (by rw [hod,e])
        rw [hii] at this;cases this
      rw [qK,if_neg (fun hh => hne hh.1)]
      exact h1
  · by_cases hji : j = i
    · subst hji
      have : oj = o':=by rw [hi] at hj;cases hj;rfl
      subst this
      exact getD_set_true (hall e he hbe)
    · rw [getD_set_ne false (Ne.symm hji)] at hlj
      exact getD_set_true (h.shut j oj hj hlj e he hbe)
theorem LA {listed : Array Bool} {a : Act} {W : World} {K : Act → World → Prop} {i : Nat} {o : Oper} (hi : ops[i]? = some o) (ok : OpOk ops D every a0.tmps.size i o)
    (hob : ∀ W,Below w.heap.size w W → given R W (fun a1 => wpList P ops (PartPost a0.defers W o (factAt R i)) [o] a1 W) (D.getD i []) a0)
    (h : PInv ops R a0 w listed a W) (hr : i ∈ Region.ready .any ops listed) (hK : ∀ a' W',PInv ops R a0 w (listed.setIfInBounds i true) a' W' → K a' W') : wpOp P ops Q i K a W:=by
  obtain ⟨hl,o',hi',hall'⟩:=mem_ready.1 hr
  have hall : ∀ e ∈ o.after,Region.binds .any e = true → listed.getD e.on false = true:=by
    rw [hi] at hi';cases hi';exact hall'
  have hlf : listed.getD i false = false:=by
    have : i < listed.size:=by rw [h.size];exact (Array.getElem?_eq_some_iff.1 hi).1
    simp [this] at hl ⊢;exact hl
  have hg:=xO (a:=a) (D.getD i []) a0 (hob W h.ext) fun p hp => by
    obtain ⟨⟨oj,hj,hd⟩,e,he,hb,hon⟩:=ok.deps p hp
    exact h.got p.1 oj p.2 hj hd (by rw [← hon];exact hall e he hb)
  generalize ha1 : fill a (D.getD i []) a0 = a1 at hg
  have agree : ∀ t ∈ o.looksAt ops,a.tmps[t]? = a1.tmps[t]?:=by
    intro t ht
    rw [← ha1,yK]
    by_cases hc : t ∈ (D.getD i []).map (·.2) ∧ t < a0.tmps.size
    · rw [if_pos hc,zK a t (by rw [h.tsz];exact hc.2)]
    · rw [if_neg hc]
      by_cases htl : t < a0.tmps.size
      · refine h.old t fun j oj hj hd => ?_
        rcases ok.looks t ht j oj hj hd with hin | ⟨e,he,hb,hon⟩
        · exact absurd ⟨List.mem_map.2 ⟨(j,t),hin,rfl⟩,htl⟩ hc
        · cases hlj : listed.getD j false
          · rfl
          · have:=h.shut j oj hj hlj e he hb
            rw [hon,hlf] at this;cases this
      · have n1 : a.tmps[t]? = none:=Array.getElem?_eq_none (by rw [h.tsz];exact Nat.le_of_not_lt htl)
        have n2 : a0.tmps[t]? = none:=Array.getElem?_eq_none (Nat.le_of_not_lt htl)
        rw [n1,n2]
  have hex : execOp a1.eval o = execOp a.eval o:=execOp_congr o ok.sel fun x hx => by
    cases x with
    | tmp t =>
      have:=agree t (List.mem_append_left _ (List.mem_filterMap.2 ⟨.tmp t,by simpa using hx,rfl⟩))
      simp [Act.eval,Array.getD_eq_getD_getElem?,this]
    | _ => rfl
  have hwt : Region.wanted o (yielded ops a1.tmps) = Region.wanted o (yielded ops a.tmps):=by
    unfold Region.wanted
    cases hgd : o.guard with
    | none => rfl
    | some gw =>
      obtain ⟨g,want⟩:=gw
      have hy : yielded ops a1.tmps g = yielded ops a.tmps g:=by
        unfold yielded
        cases ht : (ops[g]?).bind (·.dst) with
        | none => rfl
        | some t =>
          have:=agree t (by simp [Oper.looksAt,hgd,ht])
          simp [this]
      simp only [hy]
  have hsl : ∀ v d,o.dst = some d → slotOf o (a1.put o.dst v) = v:=by
    intro v d hd
    have hlt:=(ok.dst d hd).1
    have:=qK a1 d d v
    rw [if_pos ⟨rfl,by rw [← ha1,vA];exact hlt⟩] at this
    simp [slotOf,hd,Array.getD_eq_getD_getElem?,this]
  have done : ∀ v W',PartPost a0.defers W o (factAt R i) .normal (a1.put o.dst v) W' → K (a.put o.dst v) W':=by
    rintro v W' ⟨_,hb,hv⟩
    refine hK _ _ (h.step hi ok hr hb fun d hd => ?_)
    rw [hsl v d hd] at hv
    exact hv
  unfold wpOp
  simp only [hi]
  rw [← hwt]
  unfold wpList at hg
  by_cases hw : Region.wanted o (yielded ops a1.tmps) = true
  · rw [if_pos hw] at hg ⊢
    rcases hg with hg | ⟨_,_,_,hf⟩
    case inr => exact hf.elim
    refine .inl ?_
    unfold Oper.wp at hg ⊢
    rw [hex] at hg
    generalize (execOp a.eval o).run P W = r at *
    cases r with
    | ok n w' =>
      cases n <;> simp only [Oper.upon] at hg ⊢
      case value v => exact done v w' hg
      case skip => exact done undef w' hg
      case defer d =>
        obtain ⟨hd,_⟩:=hg
        rw [xL] at hd
        have e1 : a1.defers = a0.defers:=by rw [← ha1];exact xD _ _ _
        simp only [e1] at hd
        exact absurd hd (by simp)
      case enter f args =>
        refine Calls.mono hg fun e w'' he => ?_
        cases e with
        | returned v => exact done v w'' he
        | panicked c => exact he.elim
        | outgrown => obtain ⟨_,_,hf⟩:=he;exact hf.elim
      case row row args => exact Rows.mono hg fun v w'' he => done v w'' he
    | halt x w' =>
      cases x <;> simp only [Oper.upon] at hg ⊢
      case panic v => exact hg.elim
  · rw [if_neg hw] at hg ⊢
    exact done undef W hg
theorem YA (hok : ∀ i o,ops[i]? = some o → OpOk ops D every a0.tmps.size i o) (hev : ∀ p ∈ every,∃ oj,ops[p.1]? = some oj ∧ oj.dst = some p.2)
    (hob : ∀ i o,ops[i]? = some o → ∀ W,Below w.heap.size w W → given R W (fun a1 => wpList P ops (PartPost a0.defers W o (factAt R i)) [o] a1 W) (D.getD i []) a0)
    (hend : ∀ W,Below w.heap.size w W → given R W (fun a => Q .normal a W) every a0) :
    ∀ (fuel : Nat) (listed : Array Bool) (a : Act) (W : World),PInv ops R a0 w listed a W → listed.toList.count false ≤ fuel → wpAny P .any ops Q fuel listed a W:=by
  have fin : ∀ (listed : Array Bool) (a : Act) (W : World),PInv ops R a0 w listed a W → (∀ j,j < ops.size → listed.getD j false = true) → Q .normal a W:=by
    intro listed a W h hall
    have h1:=xO (a:=a) every a0 (hend W h.ext) fun p hp => by
      obtain ⟨oj,hj,hd⟩:=hev p hp
      exact h.got p.1 oj p.2 hj hd (hall p.1 (Array.getElem?_eq_some_iff.1 hj).1)
    have e1 : fill a every a0 = a:=by
      have e2 : (fill a every a0).tmps = a.tmps:=by
        apply Array.ext_getElem?
        intro t
        rw [yK]
        by_cases hc : t ∈ every.map (·.2) ∧ t < a0.tmps.size
        · rw [if_pos hc,zK a t (by rw [h.tsz];exact hc.2)]
        · rw [if_neg hc]
          by_cases ht : t < a0.tmps.size
          · refine (h.old t fun j oj hj hd => ?_).symm
            exfalso
            exact hc ⟨List.mem_map.2 ⟨(j,t),((hok j oj hj).dst t hd).2.1,rfl⟩,ht⟩
          · rw [Array.getElem?_eq_none (by omega),Array.getElem?_eq_none (by rw [h.tsz];omega)]
      have e3:=(xD a every a0).trans h.defs.symm
      cases hf : fill a every a0
      cases a
      rw [hf] at e2 e3
      simp only at e2 e3
      rw [e2,e3]
    rw [e1] at h1
    exact h1
  have one : ∀ (fuel : Nat) (listed : Array Bool) (a : Act) (W : World) (K : Act → World → Prop) (i : Nat),PInv ops R a0 w listed a W → i ∈ Region.ready .any ops listed →
      (∀ a' W',PInv ops R a0 w (listed.setIfInBounds i true) a' W' → K a' W') → wpOp P ops Q i K a W:=by
    intro fuel listed a W K i h hr hK
    obtain ⟨_,o,hi,_⟩:=mem_ready.1 hr
    exact LA hi (hok i o hi) (hob i o hi) h hr hK
  intro fuel
  induction fuel with
  | zero =>
    intro listed a W h hc
    have hall : ∀ j,j < ops.size → listed.getD j false = true:=by
      intro j hj
      have hn : false ∉ listed.toList:=List.count_eq_zero.1 (by omega)
      have hjl : j < listed.size:=by rw [h.size];exact hj
      cases hb : listed[j]
      · exact absurd (by rw [← hb];exact Array.getElem_mem_toList hjl) hn
      · simp [hjl,hb]
    refine ⟨?_,fin _ _ _ h hall⟩
    cases hr : Region.ready .any ops listed with
    | nil => rfl
    | cons x xs =>
      have hx : x ∈ Region.ready .any ops listed:=by rw [hr];exact List.mem_cons_self
      obtain ⟨hl,o,hi,_⟩:=mem_ready.1 hx
      have hlt : x < ops.size:=(Array.getElem?_eq_some_iff.1 hi).1
      have:=hall x hlt
      have hxl : x < listed.size:=by rw [h.size];exact hlt
      simp [hxl] at hl this
      rw [hl] at this;cases this
  | succ fuel ih =>
    intro listed a W h hc
    refine ⟨fun hr => fin _ _ _ h (yY hok h.size hr),fun i hi => one fuel listed a W _ i h hi fun a' W' h' => ih _ _ _ h' ?_⟩
    obtain ⟨hl,o,ho,_⟩:=mem_ready.1 hi
    have hil : i < listed.size:=by rw [h.size];exact (Array.getElem?_eq_some_iff.1 ho).1
    have:=yL listed.toList i (by
      simp [hil] at hl ⊢;exact hl)
    rw [Array.toList_setIfInBounds]
    omega
theorem JD {id : Nat} (R : List Fact) (D : List (List (Nat × Nat))) (every : List (Nat × Nat)) (hm : P.follows .mixedOrders = true) (hok : partsOk ops D every a0.tmps.size = true)
    (hob : ∀ i o,ops[i]? = some o → ∀ W,Below w.heap.size w W → given R W (fun a1 => wpList P ops (PartPost a0.defers W o (factAt R i)) [o] a1 W) (D.getD i []) a0)
    (hend : ∀ W,Below w.heap.size w W → given R W (fun a => Q .normal a W) every a0) : (Code.region id ops true).wp P Q a0 w:=by
  unfold partsOk at hok
  simp only [Bool.and_eq_true] at hok
  have ok : ∀ i o,ops[i]? = some o → OpOk ops D every a0.tmps.size i o:=fun i o hi => OpOk.of (by
    have:=List.all_eq_true.1 hok.1 i (List.mem_range.2 (Array.getElem?_eq_some_iff.1 hi).1)
    rw [hi] at this
    exact this)
  have hev : ∀ p ∈ every,∃ oj,ops[p.1]? = some oj ∧ oj.dst = some p.2:=fun p hp => by
    have:=List.all_eq_true.1 hok.2 p hp
    obtain ⟨oj,h6,h7⟩:=Option.bind_eq_some_iff.1 (beq_iff_eq.1 this)
    exact ⟨oj,h6,h7⟩
  refine wp_region_any hm (YA ok hev hob hend ops.size _ a0 _ ⟨by simp,⟨rfl,rfl,rfl,Nat.le_refl _,fun _ _ => rfl⟩,rfl,rfl,fun j oj d hj _ hl => ?_,fun _ _ => rfl,fun j oj hj hl => ?_⟩ (by simp))
  all_goals
    exfalso
    have hlt : j < ops.size:=(Array.getElem?_eq_some_iff.1 hj).1
    simp [hlt] at hl
def obs (P : Program) (ops : Array Oper) (R : List Fact) (D : List (List (Nat × Nat))) (w : World) (a0 : Act) : Nat → List Oper → Prop
  | _,[] => True
  | i,o :: r => (∀ W,Below w.heap.size w W → given R W (fun a1 => wpList P ops (PartPost a0.defers W o (factAt R i)) [o] a1 W) (D.getD i []) a0) ∧ obs P ops R D w a0 (i + 1) r
theorem QT : ∀ (l : List Oper) (k : Nat),obs P ops R D w a0 k l → ∀ j o,l[j]? = some o → ∀ W,Below w.heap.size w W → given R W (fun a1 => wpList P ops (PartPost a0.defers W o (factAt R (k + j))) [o] a1 W) (D.getD (k + j) []) a0
  | [],_,_,j,o,h => by simp at h
  | x :: l,k,ho,0,o,h => by
    simp at h;subst h
    exact ho.1
  | x :: l,k,ho,j + 1,o,h => by
    have:=QT l (k + 1) ho.2 j o (by simpa using h)
    rw [show k + (j + 1) = k + 1 + j by omega]
    exact this
theorem jR {id : Nat} {l : List Oper} (R : List Fact) (D : List (List (Nat × Nat))) (every : List (Nat × Nat)) (hm : P.follows .mixedOrders = true) (hok : partsOk l.toArray D every a0.tmps.size = true)
    (hob : obs P l.toArray R D w a0 0 l) (hend : ∀ W,Below w.heap.size w W → given R W (fun a => Q .normal a W) every a0) : (Code.region id l.toArray true).wp P Q a0 w :=
  JD R D every hm hok (fun i o hi W hW => by
    have:=QT l 0 hob i o (by simpa using hi) W hW
    rw [Nat.zero_add] at this
    exact this) hend
end
def Fact.bytes (bs : List Nat) : Fact:=⟨fun v w => ∃ A cap,v = .slice A bs.length cap ∧ Row byteV w w.heap.size A bs.length bs,fun _ _ _ hb ⟨A,cap,hv,hr⟩ => ⟨A,cap,hv,(hr.below hb).more hb.size⟩⟩
theorem j3 {D : List Deferred} {W : World} {o : Oper} {d : Nat} {c : Value} {a : Act} (ho : o.dst = some d) (hs : a.tmps.toList[d]? = some c) (hd : a.defers = D) : PartPost D W o (Fact.is c) .normal a W:=by
  refine ⟨hd,Below.refl _ _,?_⟩
  show slotOf o a = c
  have h : a.tmps[d]? = some c:=by simpa using hs
  simp [slotOf,ho,Array.getD_eq_getD_getElem?,h]
theorem jE {D : List Deferred} {W W' : World} {o : Oper} {d : Nat} {c : Value} {R : Fact} {a : Act} (ho : o.dst = some d) (hs : a.tmps.toList[d]? = some c) (hd : a.defers = D) (hb : Below W.heap.size W W') (hr : R.holds c W') : PartPost D W o R .normal a W':=by
  refine ⟨hd,hb,?_⟩
  have h : a.tmps[d]? = some c:=by simpa using hs
  simp only [slotOf,ho,Array.getD_eq_getD_getElem?,h,Option.getD_some]
  exact hr
theorem jI (l : List Value) (ds : List Deferred) (d : Nat) (v : Value) : Act.put ⟨l.toArray,ds⟩ (some d) v = ⟨(l.set d v).toArray,ds⟩:=by simp [Act.put]
theorem l9 {P : Program} {ops : Array Oper} {rest : List Oper} {o : Oper} {a : Act} {w : World} {Q : Exit → Act → World → Prop} (hgd : o.guard = none) (t : TypeId) (l c : Operand) (ho : o.op = .makeSlice t l c)
    (e : TypeId) (z : Value) (bytes : Nat) (ht : P.underlying t = some (.slice e)) (hi : (P.info? e).map (fun i => (i.zero,i.size,i.bytes)) = some (some z,1,bytes)) (hz1 : z.cells = #[z])
    (kl kc : IntKind) (n m : Nat) (hl : a.eval l = .int kl (n : Int)) (hc : a.eval c = .int kc (m : Int)) (hnm : n ≤ m) (hb : bytes * m ≤ 281474976710656) (h63 : m ≤ 9223372036854775807)
    (h : ∀ g w',w.heap.size ≤ g → Blk w' g e (List.replicate m z) → Below w.heap.size w w' → wpList P ops Q rest (a.put o.dst (.slice (some ⟨g,0,none⟩) n m)) w') : wpList P ops Q (o :: rest) a w:=by
  refine wpList_plain hgd fun K hK => ?_
  obtain ⟨i,hi0,hzz⟩:=Option.map_eq_some_iff.1 hi
  simp only [Prod.mk.injEq] at hzz
  obtain ⟨hz,hs,hbb⟩:=hzz
  have hb' : (i.bytes : Int) * (m : Int) ≤ 281474976710656:=by
    have h : ((i.bytes * m : Nat) : Int) ≤ 281474976710656:=by rw [hbb];omega
    rwa [Int.natCast_mul] at h
  have hr:=run_make (P:=P) w t e i z ht hi0 hz kl kc n m (by omega) (by omega) hb' (by omega)
  simp only [Int.toNat_natCast,hs,Nat.mul_one,hz1] at hr
  have hmc : madeCells #[z] m = (List.replicate m z).toArray:=by
    apply Array.ext
    · simp [madeCells]
    · intro k h1 h2
      simp [madeCells,Nat.mod_one]
  unfold Oper.wp
  simp [execOp,ho,hl,hc,hr,Result.andThen]
  exact hK _ _ (h _ _ (Nat.le_refl _) (Blk.newAt hmc rfl) ((Below.refl _ _).alloc (Nat.le_refl _) _))
theorem Blk.own {w : World} {g B : Nat} {e : TypeId} {cs xs : List Value} {cap : Nat} (h : Blk w g e cs) (hB : B ≤ g) (hc : cs.length = cap) (hn : xs.length ≤ cap) (hm : cap ≤ maxLen) (hx : cs.take xs.length = xs) :
    Own w B e (.slice (some ⟨g,0,none⟩) xs.length cap) xs :=
  ⟨by simp,.inr ⟨g,cap,cs.toArray,rfl,hB,h,hn,hm,by simpa using hc,by simpa using hx⟩⟩
end Go.Proofs.YtoekiejipdabmaaDoor
