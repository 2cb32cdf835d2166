/- container/heap's up and down over the program's heap, walked. -/
import Derived.Test.YtoekiejipdabmaaDoorPk6
namespace Go.Proofs.YtoekiejipdabmaaDoor
open Go.RowKit
theorem Hp.drawn {w : World} {K : Nat → Prop} {g : Nat} {l : List Int} (h : Hp w K g l) (m : Nat) : Hp (w.drewN m) K g l:=Var.drewN h m
set_option maxRecDepth 100000 in
set_option maxHeartbeats 1600000 in
theorem heap_up (K : Nat → Prop) (g n j0 : Nat) (l : List Int) (w : World) (hk : Hp w K g l) (hn : l.length = n) (hj : j0 < n) (hup : H.Up l n j0) (hn6 : n ≤ 1000000) :
    Calls Tryd.prog 81 #[hpV g,.int .i64 (j0 : Int)] w fun e w' => e = .returned (.tuple #[]) ∧ ∃ l',Hp w' K g l' ∧ l'.Perm l ∧ H.Heap l' n ∧ Held K w w':=by
  have HK:=kp hk;have HN:=kp hn;have HU:=kp hup
  clear hk hn hup
  unfold hpV
  go_enter Tryd.func81,Tryd.ntmps81
  go_wp2
  go_loopw [1] (fun v1 wr => ∃ (j : Nat) (l1 : List Int),v1 = .int .i64 (j : Int) ∧ j < n ∧ l1.Perm l ∧ H.Up l1 n j ∧ Hp wr K g l1 ∧ Held K w wr) (fun v1 _ => (intOf v1).toNat)
  case atStart => exact ⟨j0,l,rfl,hj,List.Perm.refl _,HU.out,HK.out,Held.refl _ _⟩
  case round =>
    clear HK HU hj
    obtain ⟨j,l1,rfl,hj,hp,hup,hk,hh⟩:=hrel
    have HK:=kp hk;have HU:=kp hup;have HP:=kp hp;have HH:=kp hh
    have HN1:=kp (hp.length_eq.trans HN.out)
    clear hk hup hp hh
    by_cases h0 : j = 0
    · subst h0
      have HEnd : Kept (H.Heap l1 n):=kp (H.up_zero HU.out)
      go_wp2
      go_end0
      exact ⟨rfl,l1,HK.out,HP.out,HEnd.out,HH.out⟩
    · obtain ⟨i,hi⟩ : ∃ i,i = (j - 1) / 2:=⟨_,rfl⟩
      have hq : ((j : Int) - 1).tdiv 2 = (i : Int):=by
        rw [Int.tdiv_eq_ediv_of_nonneg (by omega)];omega
      have hij : ((i : Int) == (j : Int)) = false:=by simp;omega
      have hin : i < n:=by omega
      obtain ⟨b,hb⟩ : ∃ b,decide (H.at_ l1 j < H.at_ l1 i) = b:=⟨_,rfl⟩
      have HB:=kp hb;have HI:=kp hi;have HJ0:=kp h0
      clear hb hi h0
      cases b
      · have HEnd : Kept (H.Heap l1 n):=kp (H.up_done HU.out (by have:=of_decide_eq_false HB.out;rw [← HI.out];omega))
        go_wp2_with (go_at_call 102;go_must (refine (jY K g n j i l1 wr HK.out HN1.out hj hin false HB.out).mono ?_);rintro e w5 ⟨rfl,m5,hw5⟩;have HK5 : Kept (Hp w5 K g l1):=kp (by rw [hw5];exact HK.out.drawn m5);have HH5 : Kept (Held K w w5):=kp (by rw [hw5];exact HH.out.drewN m5);clear hw5)
        go_end0
        exact ⟨rfl,l1,HK5.out,HP.out,HEnd.out,HH5.out⟩
      · have HStep : Kept (H.Up (H.swap l1 i j) n i):=kp (H.up_step HU.out (by have:=HJ0.out;omega) hj (by rw [HN1.out];exact Nat.le_refl _) HI.out (of_decide_eq_true HB.out))
        have HPs : Kept ((H.swap l1 i j).Perm l):=kp ((H.swap_perm (by rw [HN1.out];exact hin) (by rw [HN1.out];exact hj)).trans HP.out)
        have hlt : i < j:=by have:=HI.out;have:=HJ0.out;omega
        go_wp2_with (first
          | (go_at_call 102;go_must (refine (jY K g n j i l1 wr HK.out HN1.out hj hin true HB.out).mono ?_);rintro e w5 ⟨rfl,m5,hw5⟩;have HK5 : Kept (Hp w5 K g l1):=kp (by rw [hw5];exact HK.out.drawn m5);have HH5 : Kept (Held K w w5):=kp (by rw [hw5];exact HH.out.drewN m5);clear hw5)
          | (go_at_call 105;go_must (refine (qS K g n i j l1 w5 HK5.out HN1.out hin hj).mono ?_);rintro e w6 ⟨rfl,hk6,hh6⟩;have HK6:=kp hk6;have HH6:=kp (HH5.out.trans hh6);clear hk6 hh6))
        go_roundw
        case rel => exact ⟨i,H.swap l1 i j,rfl,hin,HPs.out,HStep.out,HK6.out,HH6.out⟩
        case measure => simp [intOf];omega
set_option maxRecDepth 100000 in
set_option maxHeartbeats 3200000 in
theorem YO (K : Nat → Prop) (g n N : Nat) (l : List Int) (w : World) (hk : Hp w K g l) (hn : l.length = N) (hnN : n < N) (hdn : H.Down l n 0) (hn6 : N ≤ 1000000) :
    Calls Tryd.prog 84 #[hpV g,.int .i64 0,.int .i64 (n : Int)] w fun e w' => ∃ b,e = .returned (.bool b) ∧ ∃ l',Hp w' K g l' ∧ l'.Perm l ∧ l'.drop n = l.drop n ∧ H.Heap l' n ∧ Held K w w':=by
  have HK:=kp hk;have HN:=kp hn;have HD:=kp hdn
  clear hk hn hdn
  unfold hpV
  go_enter Tryd.func84,Tryd.ntmps84
  go_wp2
  go_loopw [7] (fun v7 wr => ∃ (i : Nat) (l1 : List Int),v7 = .int .i64 (i : Int) ∧ i ≤ n ∧ l1.Perm l ∧ l1.drop n = l.drop n ∧ H.Down l1 n i ∧ Hp wr K g l1 ∧ Held K w wr) (fun v7 _ => n - (intOf v7).toNat)
  case atStart => exact ⟨0,l,rfl,Nat.zero_le _,List.Perm.refl _,rfl,HD.out,HK.out,Held.refl _ _⟩
  case round =>
    clear HK HD
    obtain ⟨i,l1,rfl,hi,hp,hdr,hdn,hk,hh⟩:=hrel
    have HK:=kp hk;have HD:=kp hdn;have HP:=kp hp;have HH:=kp hh;have HDr:=kp hdr
    have HN1:=kp (hp.length_eq.trans HN.out)
    clear hk hdn hp hh hdr
    obtain ⟨j1,hj1⟩ : ∃ j1,j1 = 2 * i + 1:=⟨_,rfl⟩
    have e1 : 2 * (i : Int) + 1 = (j1 : Int):=by omega
    by_cases h1 : j1 < n
    · obtain ⟨j2,hj2⟩ : ∃ j2,j2 = j1 + 1:=⟨_,rfl⟩
      have e2 : (j1 : Int) + 1 = (j2 : Int):=by omega
      have HJ1:=kp hj1;have HJ2:=kp hj2
      by_cases h2 : j2 < n
      · obtain ⟨b,hb⟩ : ∃ b,decide (H.at_ l1 j2 < H.at_ l1 j1) = b:=⟨_,rfl⟩
        have HB:=kp hb
        clear hb
        cases b
        · obtain ⟨c,hc⟩ : ∃ c,decide (H.at_ l1 j1 < H.at_ l1 i) = c:=⟨_,rfl⟩
          have HC:=kp hc
          have HCh : Kept (H.Child l1 n i j1):=kp (by rw [hj1];exact H.child_left (by omega) (.inr (by have:=of_decide_eq_false HB.out;rw [show j2 = 2 * i + 2 by omega,hj1] at this;omega)))
          clear hc hj1 hj2
          cases c
          · have HEnd : Kept (H.Heap l1 n):=kp (H.down_done HD.out HCh.out (by have:=of_decide_eq_false HC.out;omega))
            go_wp2_with (first
              | (go_at_call_of 102 #[Value.pointer (some ⟨g,0,none⟩),Value.int IntKind.i64 (j2 : Int),Value.int IntKind.i64 (j1 : Int)];go_must (refine (jY K g N j2 j1 l1 wr HK.out HN1.out (by omega) (by omega) false HB.out).mono ?_);rintro e w4 ⟨rfl,m4,hw4⟩;have HK4 : Kept (Hp w4 K g l1):=kp (by rw [hw4];exact HK.out.drawn m4);have HH4 : Kept (Held K w w4):=kp (by rw [hw4];exact HH.out.drewN m4);clear hw4)
              | (go_at_call_of 102 #[Value.pointer (some ⟨g,0,none⟩),Value.int IntKind.i64 (j1 : Int),Value.int IntKind.i64 (i : Int)];go_must (refine (jY K g N j1 i l1 w4 HK4.out HN1.out (by omega) (by omega) false HC.out).mono ?_);rintro e w5 ⟨rfl,m5,hw5⟩;have HK5 : Kept (Hp w5 K g l1):=kp (by rw [hw5];exact HK4.out.drawn m5);have HH5 : Kept (Held K w w5):=kp (by rw [hw5];exact HH4.out.drewN m5);clear hw5))
            go_ret
            exact ⟨_,rfl,l1,HK5.out,HP.out,HDr.out,HEnd.out,HH5.out⟩
          · have HStep : Kept (H.Down (H.swap l1 i j1) n j1):=kp (H.down_step HD.out HCh.out (by rw [HN1.out];omega) (of_decide_eq_true HC.out))
            have HPs : Kept ((H.swap l1 i j1).Perm l):=kp ((H.swap_perm (by rw [HN1.out];omega) (by rw [HN1.out];omega)).trans HP.out)
            have HDs : Kept ((H.swap l1 i j1).drop n = l.drop n):=kp ((H.swap_drop (by omega) (by omega)).trans HDr.out)
            go_wp2_with (first
              | (go_at_call_of 102 #[Value.pointer (some ⟨g,0,none⟩),Value.int IntKind.i64 (j2 : Int),Value.int IntKind.i64 (j1 : Int)];go_must (refine (jY K g N j2 j1 l1 wr HK.out HN1.out (by omega) (by omega) false HB.out).mono ?_);rintro e w4 ⟨rfl,m4,hw4⟩;have HK4 : Kept (Hp w4 K g l1):=kp (by rw [hw4];exact HK.out.drawn m4);have HH4 : Kept (Held K w w4):=kp (by rw [hw4];exact HH.out.drewN m4);clear hw4)
              | (go_at_call_of 102 #[Value.pointer (some ⟨g,0,none⟩),Value.int IntKind.i64 (j1 : Int),Value.int IntKind.i64 (i : Int)];go_must (refine (jY K g N j1 i l1 w4 HK4.out HN1.out (by omega) (by omega) true HC.out).mono ?_);rintro e w5 ⟨rfl,m5,hw5⟩;have HK5 : Kept (Hp w5 K g l1):=kp (by rw [hw5];exact HK4.out.drawn m5);have HH5 : Kept (Held K w w5):=kp (by rw [hw5];exact HH4.out.drewN m5);clear hw5)
              | (go_at_call 105;go_must (refine (qS K g N i j1 l1 w5 HK5.out HN1.out (by omega) (by omega)).mono ?_);rintro e w6 ⟨rfl,hk6,hh6⟩;have HK6:=kp hk6;have HH6:=kp (HH5.out.trans hh6);clear hk6 hh6))
            go_roundw
            case rel => exact ⟨j1,H.swap l1 i j1,rfl,by omega,HPs.out,HDs.out,HStep.out,HK6.out,HH6.out⟩
            case measure => simp [intOf];omega
        · obtain ⟨c,hc⟩ : ∃ c,decide (H.at_ l1 j2 < H.at_ l1 i) = c:=⟨_,rfl⟩
          have HC:=kp hc
          have HCh : Kept (H.Child l1 n i j2):=kp (by rw [show j2 = 2 * i + 2 by omega];exact H.child_right (by omega) (by have:=of_decide_eq_true HB.out;rw [show j2 = 2 * i + 2 by omega,hj1] at this;exact this))
          clear hc hj1 hj2
          cases c
          · have HEnd : Kept (H.Heap l1 n):=kp (H.down_done HD.out HCh.out (by have:=of_decide_eq_false HC.out;omega))
            go_wp2_with (first
              | (go_at_call_of 102 #[Value.pointer (some ⟨g,0,none⟩),Value.int IntKind.i64 (j2 : Int),Value.int IntKind.i64 (j1 : Int)];go_must (refine (jY K g N j2 j1 l1 wr HK.out HN1.out (by omega) (by omega) true HB.out).mono ?_);rintro e w4 ⟨rfl,m4,hw4⟩;have HK4 : Kept (Hp w4 K g l1):=kp (by rw [hw4];exact HK.out.drawn m4);have HH4 : Kept (Held K w w4):=kp (by rw [hw4];exact HH.out.drewN m4);clear hw4)
              | (go_at_call_of 102 #[Value.pointer (some ⟨g,0,none⟩),Value.int IntKind.i64 (j2 : Int),Value.int IntKind.i64 (i : Int)];go_must (refine (jY K g N j2 i l1 w4 HK4.out HN1.out (by omega) (by omega) false HC.out).mono ?_);rintro e w5 ⟨rfl,m5,hw5⟩;have HK5 : Kept (Hp w5 K g l1):=kp (by rw [hw5];exact HK4.out.drawn m5);have HH5 : Kept (Held K w w5):=kp (by rw [hw5];exact HH4.out.drewN m5);clear hw5))
            go_ret
            exact ⟨_,rfl,l1,HK5.out,HP.out,HDr.out,HEnd.out,HH5.out⟩
          · have HStep : Kept (H.Down (H.swap l1 i j2) n j2):=kp (H.down_step HD.out HCh.out (by rw [HN1.out];omega) (of_decide_eq_true HC.out))
            have HPs : Kept ((H.swap l1 i j2).Perm l):=kp ((H.swap_perm (by rw [HN1.out];omega) (by rw [HN1.out];omega)).trans HP.out)
            have HDs : Kept ((H.swap l1 i j2).drop n = l.drop n):=kp ((H.swap_drop (by omega) (by omega)).trans HDr.out)
            go_wp2_with (first
              | (go_at_call_of 102 #[Value.pointer (some ⟨g,0,none⟩),Value.int IntKind.i64 (j2 : Int),Value.int IntKind.i64 (j1 : Int)];go_must (refine (jY K g N j2 j1 l1 wr HK.out HN1.out (by omega) (by omega) true HB.out).mono ?_);rintro e w4 ⟨rfl,m4,hw4⟩;have HK4 : Kept (Hp w4 K g l1):=kp (by rw [hw4];exact HK.out.drawn m4);have HH4 : Kept (Held K w w4):=kp (by rw [hw4];exact HH.out.drewN m4);clear hw4)
              | (go_at_call_of 102 #[Value.pointer (some ⟨g,0,none⟩),Value.int IntKind.i64 (j2 : Int),Value.int IntKind.i64 (i : Int)];go_must (refine (jY K g N j2 i l1 w4 HK4.out HN1.out (by omega) (by omega) true HC.out).mono ?_);rintro e w5 ⟨rfl,m5,hw5⟩;have HK5 : Kept (Hp w5 K g l1):=kp (by rw [hw5];exact HK4.out.drawn m5);have HH5 : Kept (Held K w w5):=kp (by rw [hw5];exact HH4.out.drewN m5);clear hw5)
              | (go_at_call 105;go_must (refine (qS K g N i j2 l1 w5 HK5.out HN1.out (by omega) (by omega)).mono ?_);rintro e w6 ⟨rfl,hk6,hh6⟩;have HK6:=kp hk6;have HH6:=kp (HH5.out.trans hh6);clear hk6 hh6))
            go_roundw
            case rel => exact ⟨j2,H.swap l1 i j2,rfl,by omega,HPs.out,HDs.out,HStep.out,HK6.out,HH6.out⟩
            case measure => simp [intOf];omega
      · obtain ⟨c,hc⟩ : ∃ c,decide (H.at_ l1 j1 < H.at_ l1 i) = c:=⟨_,rfl⟩
        have HC:=kp hc
        have HCh : Kept (H.Child l1 n i j1):=kp (by rw [hj1];exact H.child_left (by omega) (.inl (by omega)))
        clear hc hj1 hj2
        cases c
        · have HEnd : Kept (H.Heap l1 n):=kp (H.down_done HD.out HCh.out (by have:=of_decide_eq_false HC.out;omega))
          go_wp2_with (first
            | (go_at_call_of 102 #[Value.pointer (some ⟨g,0,none⟩),Value.int IntKind.i64 (j1 : Int),Value.int IntKind.i64 (i : Int)];go_must (refine (jY K g N j1 i l1 wr HK.out HN1.out (by omega) (by omega) false HC.out).mono ?_);rintro e w5 ⟨rfl,m5,hw5⟩;have HK5 : Kept (Hp w5 K g l1):=kp (by rw [hw5];exact HK.out.drawn m5);have HH5 : Kept (Held K w w5):=kp (by rw [hw5];exact HH.out.drewN m5);clear hw5))
          go_ret
          exact ⟨_,rfl,l1,HK5.out,HP.out,HDr.out,HEnd.out,HH5.out⟩
        · have HStep : Kept (H.Down (H.swap l1 i j1) n j1):=kp (H.down_step HD.out HCh.out (by rw [HN1.out];omega) (of_decide_eq_true HC.out))
          have HPs : Kept ((H.swap l1 i j1).Perm l):=kp ((H.swap_perm (by rw [HN1.out];omega) (by rw [HN1.out];omega)).trans HP.out)
          have HDs : Kept ((H.swap l1 i j1).drop n = l.drop n):=kp ((H.swap_drop (by omega) (by omega)).trans HDr.out)
          go_wp2_with (first
            | (go_at_call_of 102 #[Value.pointer (some ⟨g,0,none⟩),Value.int IntKind.i64 (j1 : Int),Value.int IntKind.i64 (i : Int)];go_must (refine (jY K g N j1 i l1 wr HK.out HN1.out (by omega) (by omega) true HC.out).mono ?_);rintro e w5 ⟨rfl,m5,hw5⟩;have HK5 : Kept (Hp w5 K g l1):=kp (by rw [hw5];exact HK.out.drawn m5);have HH5 : Kept (Held K w w5):=kp (by rw [hw5];exact HH.out.drewN m5);clear hw5)
            | (go_at_call 105;go_must (refine (qS K g N i j1 l1 w5 HK5.out HN1.out (by omega) (by omega)).mono ?_);rintro e w6 ⟨rfl,hk6,hh6⟩;have HK6:=kp hk6;have HH6:=kp (HH5.out.trans hh6);clear hk6 hh6))
          go_roundw
          case rel => exact ⟨j1,H.swap l1 i j1,rfl,by omega,HPs.out,HDs.out,HStep.out,HK6.out,HH6.out⟩
          case measure => simp [intOf];omega
    · have HEnd : Kept (H.Heap l1 n):=kp (H.down_none HD.out (by omega))
      clear hj1
      go_wp2
      go_ret
      exact ⟨_,rfl,l1,HK.out,HP.out,HDr.out,HEnd.out,HH.out⟩
end Go.Proofs.YtoekiejipdabmaaDoor
