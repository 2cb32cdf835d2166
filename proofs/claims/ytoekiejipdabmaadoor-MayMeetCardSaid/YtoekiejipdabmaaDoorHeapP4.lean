/- container/heap's Push and Pop over the program's heap, and the program's pop, walked. -/
import Derived.Test.YtoekiejipdabmaaDoorHeapP3
namespace Go.Proofs.YtoekiejipdabmaaDoor
open Go.RowKit
def HpH (w : World) (K : Nat → Prop) (g : Nat) (l : List Int) : Prop:=Hp w K g l ∧ H.Heap l l.length
theorem HpH.kept {w w' : World} {K K' : Nat → Prop} {g : Nat} {l : List Int} {row : Option Nat} (h : HpH w K g l) (hg : w.grownBy w' row) (hr : ∀ k,row = some k → K k) (hS : ∀ k,K' k → K k ∨ (w.heap.size ≤ k ∧ k < w'.heap.size)) : HpH w' K' g l:=⟨Var.kept h.1 hg hr hS,h.2⟩
theorem HpH.below {w w' : World} {K K' : Nat → Prop} {g : Nat} {l : List Int} (h : HpH w K g l) (hb : Below w.heap.size w w') (hS : ∀ k,K' k → K k ∨ (w.heap.size ≤ k ∧ k < w'.heap.size)) : HpH w' K' g l:=⟨Var.below h.1 hb hS,h.2⟩
set_option maxRecDepth 100000 in
set_option maxHeartbeats 800000 in
theorem J9 (K : Nat → Prop) (g : Nat) (x : Int) (l : List Int) (w : World) (hk : HpH w K g l) (hn : l.length ≤ 100000) :
    Calls Tryd.prog 70 #[hpV g,.iface 3 (.int .i64 x)] w fun e w' => e = .returned (.tuple #[]) ∧ ∃ l',HpH w' K g l' ∧ l'.Perm (x :: l) ∧ Held K w w':=by
  obtain ⟨n,hnn⟩ : ∃ n,l.length = n:=⟨_,rfl⟩
  have HK:=kp hk.1;have HN:=kp hnn
  have HU:=kp (H.push_up hk.2 rfl x)
  have HN1 : Kept ((l ++ [x]).length = n + 1):=kp (by simp [hnn])
  rw [hnn] at HU hn
  clear hk hnn
  unfold hpV
  go_enter Tryd.func70,Tryd.ntmps70
  go_wp2_with (first
    | (go_at_call 104;go_must (refine (QY K g x l w HK.out (by rw [HN.out];omega)).mono ?_);rintro e w1 ⟨rfl,hk1,hh1⟩;have HK1:=kp hk1;have HH1:=kp hh1;clear hk1 hh1)
    | (go_at_call 71;go_must (refine (yG K g (n + 1) _ w1 HK1.out HN1.out).mono ?_);rintro e w2 ⟨rfl,rfl⟩)
    | (go_at_call 81;go_must (refine (heap_up K g (n + 1) n _ w1 HK1.out HN1.out (by omega) HU.out (by omega)).mono ?_);rintro e w3 ⟨rfl,l3,hk3,hp3,hh3,hd3⟩;have HK3:=kp hk3;have HP3:=kp hp3;have HH3:=kp hh3;have HD3:=kp (HH1.out.trans hd3);clear hk3 hp3 hh3 hd3))
  go_end0
  exact ⟨rfl,l3,⟨HK3.out,by rw [HP3.out.length_eq,HN1.out];exact HH3.out⟩,HP3.out.trans (List.perm_append_singleton x l),HD3.out⟩
set_option maxRecDepth 100000 in
set_option maxHeartbeats 800000 in
theorem heap_Pop (K : Nat → Prop) (g m : Nat) (l : List Int) (w : World) (hk : HpH w K g l) (hn : l.length = m + 1) (hm : m ≤ 100000) :
    Calls Tryd.prog 82 #[hpV g] w fun e w' => ∃ (x : Int) (l' : List Int),e = .returned (.iface 3 (.int .i64 x)) ∧ HpH w' K g l' ∧ l.Perm (x :: l') ∧ (∀ y ∈ l,x ≤ y) ∧ Held K w w':=by
  have hheap:=hk.2
  rw [hn] at hheap
  have HK:=kp hk.1;have HN:=kp hn
  have HD:=kp (H.pop_down hheap hn)
  have HPs : Kept ((H.swap l 0 m).Perm l):=kp (H.swap_perm (by omega) (by omega))
  have HN1:=kp (HPs.out.length_eq.trans hn)
  have HMin : Kept (∀ y ∈ l,H.at_ l 0 ≤ y):=kp fun y hy => by
    obtain ⟨k,hk⟩:=List.mem_iff_getElem?.1 hy
    have hkl:=(List.getElem?_eq_some_iff.1 hk).1
    have h1:=H.heap_min hheap (k + 1) k (by omega) (by omega)
    rw [H.at_of hk] at h1
    exact h1
  have HAt : Kept (H.at_ (H.swap l 0 m) m = H.at_ l 0):=kp (by rw [H.at_swap (by omega) (by omega),if_pos rfl])
  clear hk hn hheap
  unfold hpV
  go_enter Tryd.func82,Tryd.ntmps82
  go_wp2_with (first
    | (go_at_call 71;go_must (refine (yG K g (m + 1) _ w HK.out HN.out).mono ?_);rintro e w2 ⟨rfl,rfl⟩)
    | (go_at_call 105;go_must (refine (qS K g (m + 1) 0 m l w HK.out HN.out (by omega) (by omega)).mono ?_);rintro e w1 ⟨rfl,hk1,hh1⟩;have HK1:=kp hk1;have HH1:=kp hh1;clear hk1 hh1)
    | (go_at_call 84;go_must (refine (YO K g m (m + 1) _ w1 HK1.out HN1.out (by omega) HD.out (by omega)).mono ?_);rintro e w3 ⟨b3,rfl,l3,hk3,hp3,hr3,hh3,hd3⟩;have HK3:=kp hk3;have HP3:=kp hp3;have HR3:=kp hr3;have HH3:=kp hh3;have HD3:=kp (HH1.out.trans hd3);have HN3:=kp (hp3.length_eq.trans HN1.out);clear hk3 hp3 hr3 hh3 hd3)
    | (go_at_call 103;go_must (refine (YM K g m l3 w3 HK3.out HN3.out).mono ?_);rintro e w4 ⟨rfl,hk4,hh4⟩;have HK4:=kp hk4;have HH4:=kp (HD3.out.trans hh4);clear hk4 hh4))
  go_ret
  have hat : H.at_ l3 m = H.at_ l 0:=by
    rw [← HAt.out]
    have e1 : l3[m]? = (H.swap l 0 m)[m]?:=by
      have:=congrArg (fun q : List Int => q[0]?) HR3.out
      simpa [List.getElem?_drop] using this
    rw [H.at_some (by rw [HN3.out];omega),H.at_some (by rw [HN1.out];omega)] at e1
    exact Option.some.inj e1
  refine ⟨H.at_ l3 m,l3.take m,rfl,⟨HK4.out,?_⟩,?_,fun y hy => by rw [hat];exact HMin.out y hy,HH4.out⟩
  · rw [List.length_take,HN3.out,Nat.min_eq_left (by omega)]
    exact H.heap_take HH3.out (Nat.le_refl _)
  · have e1 : l3 = l3.take m ++ [H.at_ l3 m]:=by
      have h1:=List.take_append_drop m l3
      have h2 : l3.drop m = [H.at_ l3 m]:=by
        rw [List.drop_eq_getElem_cons (by rw [HN3.out];omega),List.drop_of_length_le (by rw [HN3.out];omega)]
        have h3:=H.at_some (l:=l3) (i:=m) (by rw [HN3.out];omega)
        rw [List.getElem?_eq_getElem (by rw [HN3.out];omega)] at h3
        rw [Option.some.inj h3]
      rw [h2] at h1
      exact h1.symm
    have h4 : (l3.take m ++ [H.at_ l3 m]).Perm l:=by rw [← e1];exact HP3.out.trans HPs.out
    exact (h4.symm).trans (List.perm_append_singleton _ _)
set_option maxRecDepth 100000 in
set_option maxHeartbeats 800000 in
theorem YK (K : Nat → Prop) (g m : Nat) (l : List Int) (w : World) (hk : HpH w K g l) (hn : l.length = m + 1) (hm : m ≤ 100000) :
    Calls Tryd.prog 72 #[.pointer (some ⟨g,0,none⟩)] w fun e w' => ∃ (x : Int) (l' : List Int),e = .returned (.int .i64 x) ∧ HpH w' K g l' ∧ l.Perm (x :: l') ∧ (∀ y ∈ l,x ≤ y) ∧ Held K w w':=by
  have HK:=kp hk;have HN:=kp hn
  clear hk hn
  go_enter Tryd.func72,Tryd.ntmps72
  go_wp2_with (go_at_call 82;go_must (refine (heap_Pop K g m l w HK.out HN.out hm).mono ?_);rintro e w1 ⟨x,l1,rfl,hk1,hp1,hm1,hh1⟩;have HK1:=kp hk1;have HP1:=kp hp1;have HM1:=kp hm1;have HH1:=kp hh1;have hta:=uY x w1;clear hk1 hp1 hm1 hh1)
  go_ret
  exact ⟨x,l1,rfl,HK1.out,HP1.out,HM1.out,HH1.out⟩
end Go.Proofs.YtoekiejipdabmaaDoor
