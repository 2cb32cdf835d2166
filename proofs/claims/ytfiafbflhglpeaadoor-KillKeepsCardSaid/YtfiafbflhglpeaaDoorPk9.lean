/- KillP3, KillLaw1, KillBeg, Skip, SetP3, SetLaw1, SetLaid. -/
import Derived.Test.YtfiafbflhglpeaaDoorKillP2
import Derived.Test.YtfiafbflhglpeaaDoorPk4
import Derived.Test.YtfiafbflhglpeaaDoorProgRef5
import Derived.Test.YtfiafbflhglpeaaDoorPk2
import Derived.Test.YtfiafbflhglpeaaDoorPk6
import Derived.Test.YtfiafbflhglpeaaDoorPk8
import Derived.BigQuiet
import Derived.Deep.QuietTactic
import Derived.Test.YtfiafbflhglpeaaDoorRows
import Derived.Test.YtfiafbflhglpeaaDoorPk1
import Derived.Deep.DeepHandedRow
import Derived.Lib.LaidTab
namespace Go.Proofs.YtfiafbflhglpeaaDoor
open Go.RowKit
set_option maxRecDepth 100000 in
set_option maxHeartbeats 800000 in
theorem lT (B : Nat) (p : Pg) (w : World) (hp : p.Ok w B) (hB : B ≤ w.heap.size) (hs : Q.small p = true) (ht : Tab w) (c0 c1 : Int) (c : Nat) (hc : Q.check p = (c0,c1,c)) (us : List Nat) (hus : killA p 4 4 c = us) :
    Calls Tryd.prog 9 #[pgA p] w fun e w' => ∃ v,e = .returned (.tuple #[v,.int .i64 (c : Int)]) ∧ Own w' w.heap.size 31 v (us.map wordV) ∧ Below w.heap.size w w':=by
  have HP:=kp hp;have HS:=kp hs;have HT:=kp ht;have HC:=kp hc;have HU:=kp hus
  have hw1:=ht.size
  clear hp hs ht hc hus
  rw [jN]
  go_enter Tryd.func9,Tryd.ntmps9
  go_wp2_with (first
    | ((with_reducible refine j4 rfl 24 (.tmp 0) rfl (pgC p) rfl ?_);intro g1 w1 hg1 hk1 hw1;obtain ⟨hc0,hc1,hc2,hc3⟩:=j8 hk1;have HW1:=kp hw1;have hs1:=hw1.size;clear hg1 hk1 hw1)
    | (go_at_call 21;go_must (refine (xS B p w1 (HP.out.below (HW1.out.mono hB)) (Nat.le_trans hB hs1) HS.out (HT.out.below HW1.out hw1) c0 c1 c HC.out 22 4 4 (.inl ⟨rfl,rfl,rfl⟩) us HU.out).mono ?_);rintro e w2 ⟨v,rfl,hown,hb2⟩
       have HO:=kp hown;have HW2:=kp (HW1.out.trans (hb2.mono hs1));clear hown hb2))
  go_ret2
  exact ⟨v,rfl,HO.out.less hs1,HW2.out⟩
set_option maxRecDepth 100000 in
set_option maxHeartbeats 800000 in
theorem xC (B : Nat) (p : Pg) (w : World) (hp : p.Ok w B) (hB : B ≤ w.heap.size) (hs : Q.small p = true) (ht : Tab w) (c0 c1 : Int) (c : Nat) (hc : Q.check p = (c0,c1,c)) (us : List Nat) (hus : killA p 1 2 c = us) :
    Calls Tryd.prog 10 #[pgA p] w fun e w' => ∃ v,e = .returned (.tuple #[v,.int .i64 (c : Int)]) ∧ Own w' w.heap.size 31 v (us.map wordV) ∧ Below w.heap.size w w':=by
  have HP:=kp hp;have HS:=kp hs;have HT:=kp ht;have HC:=kp hc;have HU:=kp hus
  have hw1:=ht.size
  clear hp hs ht hc hus
  rw [jN]
  go_enter Tryd.func10,Tryd.ntmps10
  go_wp2_with (first
    | ((with_reducible refine j4 rfl 24 (.tmp 0) rfl (pgC p) rfl ?_);intro g1 w1 hg1 hk1 hw1;obtain ⟨hc0,hc1,hc2,hc3⟩:=j8 hk1;have HW1:=kp hw1;have hs1:=hw1.size;clear hg1 hk1 hw1)
    | (go_at_call 21;go_must (refine (xS B p w1 (HP.out.below (HW1.out.mono hB)) (Nat.le_trans hB hs1) HS.out (HT.out.below HW1.out hw1) c0 c1 c HC.out 23 1 2 (.inr (.inl ⟨rfl,rfl,rfl⟩)) us HU.out).mono ?_);rintro e w2 ⟨v,rfl,hown,hb2⟩
       have HO:=kp hown;have HW2:=kp (HW1.out.trans (hb2.mono hs1));clear hown hb2))
  go_ret2
  exact ⟨v,rfl,HO.out.less hs1,HW2.out⟩
theorem QF {ms : List Nat} {m i x : Nat} (h : BitsAre m (fun f => ∃ y,(ms.take i)[f]? = some y ∧ y ≠ 0)) (hx : ms[i]? = some x) (hi : i < 32) :
    (x ≠ 0 → BitsAre (m ||| 2 ^ i) (fun f => ∃ y,(ms.take (i + 1))[f]? = some y ∧ y ≠ 0)) ∧ (x = 0 → BitsAre m (fun f => ∃ y,(ms.take (i + 1))[f]? = some y ∧ y ≠ 0)):=by
  have hil : i < ms.length:=(List.getElem?_eq_some_iff.1 hx).1
  have key : ∀ f,(∃ y,(ms.take (i + 1))[f]? = some y ∧ y ≠ 0) ↔ (∃ y,(ms.take i)[f]? = some y ∧ y ≠ 0) ∨ (f = i ∧ x ≠ 0):=by
    intro f
    rw [List.getElem?_take,List.getElem?_take]
    rcases Nat.lt_trichotomy f i with h1 | h1 | h1
    · rw [if_pos (show f < i + 1 by omega),if_pos h1]
      constructor
      · exact .inl
      · rintro (h2 | ⟨h2,_⟩)
        · exact h2
        · omega
    · subst h1
      rw [if_pos (show f < f + 1 by omega),if_neg (Nat.lt_irrefl f),hx]
      constructor
      · rintro ⟨y,hy,h0⟩;cases hy;exact .inr ⟨rfl,h0⟩
      · rintro (⟨y,hy,_⟩ | ⟨_,h0⟩)
        · cases hy
        · exact ⟨x,rfl,h0⟩
    · rw [if_neg (show ¬ f < i + 1 by omega),if_neg (show ¬ f < i by omega)]
      constructor
      · rintro ⟨y,hy,_⟩;cases hy
      · rintro (⟨y,hy,_⟩ | ⟨h2,_⟩)
        · cases hy
        · omega
  constructor
  · intro h0
    have hb:=qS (i : Int)
    rw [S.one_nat i (by omega)] at hb
    refine (zW h hb).congr fun f _ => ?_
    rw [key f]
    constructor
    · rintro (h1 | h1)
      · exact .inl h1
      · exact .inr ⟨by omega,h0⟩
    · rintro (h1 | ⟨h1,_⟩)
      · exact .inl h1
      · exact .inr (by omega)
  · intro h0
    refine h.congr fun f _ => ?_
    rw [key f]
    constructor
    · exact .inl
    · rintro (h1 | ⟨_,h2⟩)
      · exact h1
      · exact absurd h0 h2
theorem yB {p : Pg} {a b : Int} {f m : Nat} (h : BitsAre m (MayDo p a b f)) : m ≠ 0 ↔ ∃ id,id < 32 ∧ MayDo p a b f id:=by
  constructor
  · intro h0
    refine Classical.byContradiction fun hno => h0 ?_
    refine h.uniq (lY.congr fun id hid => ?_)
    constructor
    · intro hf;exact hf.elim
    · intro hm;exact hno ⟨id,hid,hm⟩
  · rintro ⟨id,hid,hm⟩ rfl
    have:=(h.2 id hid).2 hm
    simp at this
def lG (p : Pg) (c m : Nat) : Prop:=(c ≠ 0 → m = 0) ∧ (c = 0 → BitsAre m (fun f => f < p.len ∧ ∃ id,id < 32 ∧ MayDo p 5 5 f id))
theorem lG.uniq {p : Pg} {c m m' : Nat} (h : lG p c m) (h' : lG p c m') : m = m':=by
  by_cases hc : c = 0
  · exact (h.2 hc).uniq (h'.2 hc)
  · rw [h.1 hc,h'.1 hc]
set_option maxRecDepth 100000 in
set_option maxHeartbeats 1600000 in
theorem xT (B : Nat) (p : Pg) (w : World) (hp : p.Ok w B) (hB : B ≤ w.heap.size) (hs : Q.small p = true) (ht : Tab w) (c0 c1 : Int) (c : Nat) (hc : Q.check p = (c0,c1,c)) (mb : Nat) (hmb : lG p c mb) :
    Calls Tryd.prog 11 #[pgA p] w fun e w' => e = .returned (.tuple #[.int .u32 (mb : Int),.int .i64 (c : Int)]) ∧ Below w.heap.size w w':=by
  have HP:=kp hp;have HS:=kp hs;have HT:=kp ht;have HC:=kp hc;have HMb:=kp hmb
  have hw1:=ht.size
  have HLen:=kp hp.row.len
  obtain ⟨us,hus⟩ : ∃ us,killA p 5 5 c = us:=⟨_,rfl⟩
  obtain ⟨n,hn⟩ : ∃ n,us.length = n:=⟨_,rfl⟩
  have hn16 : n ≤ 16:=by
    by_cases hz : c = 0
    · subst hz
      have h1:=(xH hc).counts.f
      have h2:=hp.row.len
      rw [← hn,← hus,jU,l2]
      omega
    · rw [← hn,← hus,qT _ _ _ hz];simp
  have HU:=kp hus;have HN:=kp hn
  clear hp hs ht hc hus hmb hn
  rw [jN]
  go_enter Tryd.func11,Tryd.ntmps11
  go_wp2_with (first
    | ((with_reducible refine j4 rfl 24 (.tmp 0) rfl (pgC p) rfl ?_);intro g1 w1 hg1 hk1 hw1;obtain ⟨hc0,hc1,hc2,hc3⟩:=j8 hk1;have HW1:=kp hw1;have hs1:=hw1.size;clear hg1 hk1 hw1)
    | (go_at_call 21;go_must (refine (xS B p w1 (HP.out.below (HW1.out.mono hB)) (Nat.le_trans hB hs1) HS.out (HT.out.below HW1.out hw1) c0 c1 c HC.out 24 5 5 (.inr (.inr ⟨rfl,rfl,rfl⟩)) us HU.out).mono ?_);rintro e w2 ⟨v,rfl,hown,hb2⟩
       obtain ⟨A2,k2,rfl,hk2,hm2,hr2⟩:=Own.readsN hown HN.out
       have HR2:=kp hr2;have HW2:=kp (HW1.out.trans (hb2.mono hs1));clear hown hb2 hc0 hc1 hc2 hc3 hr2
       unfold maxLen at hm2))
  go_loop [6,16] (fun v6 v16 => ∃ i m : Nat,i ≤ n ∧ v16 = .int .i64 i ∧ v6 = .int .u32 (m : Int) ∧ BitsAre m (fun f => ∃ y,(us.take i)[f]? = some y ∧ y ≠ 0)) (fun _ v16 => n - (intOf v16).toNat)
  case atStart => exact ⟨0,0,by omega,rfl,rfl,lY.congr fun id _ => by simp⟩
  case round =>
    obtain ⟨i,m,hi,rfl,rfl,hm⟩:=hrel
    have HM:=kp hm
    have hm32:=hm.1
    by_cases hlt : i < n
    · obtain ⟨ad,x,rfl,_,hx,hcx⟩:=HR2.out.get hlt
      rw [jT] at hcx
      obtain ⟨hA,hZ⟩:=QF hm hx (by omega)
      have HX:=kp hx
      by_cases h0 : x = 0
      · subst h0
        have HZ:=kp (hZ rfl)
        clear hm hA hZ hx
        go_wp2
        go_round
        case rel => exact ⟨i + 1,m,by omega,by go_num,rfl,HZ.out⟩
        case measure => simp [intOf];omega
      · have hxb : ((x : Int) != (0 : Int)) = true:=by simp;omega
        have HA:=kp (hA h0)
        have hp31:=xR i (by omega)
        have hor : bits .or .u32 (m : Int) ((2 ^ i : Nat) : Int) = ((m ||| 2 ^ i : Nat) : Int):=u32_or_nat m (2 ^ i) hm32 (by omega)
        have HOne : Kept (S.one (i : Int) = 2 ^ i):=kp (S.one_nat i (by omega))
        generalize hq : 2 ^ i = q at *
        obtain ⟨qn,hqn⟩ : ∃ qn,m ||| q = qn:=⟨_,rfl⟩
        rw [hqn] at hor HA
        clear hm hA hZ hx h0 hq hqn
        go_wp2_with (go_at_call 25;go_must (refine (qL (i : Int) ⟨by omega,by omega⟩ q HOne.out _).mono ?_);rintro e w3 ⟨rfl,rfl⟩)
        go_round
        case rel => exact ⟨i + 1,qn,by omega,by go_num,rfl,HA.out⟩
        case measure => simp [intOf];omega
    · have hie : n ≤ i:=by omega
      have HE : Kept (m = mb):=kp (by
        refine lG.uniq (c:=c) ⟨fun hz => ?_,fun hz => ?_⟩ HMb.out
        · have h1:=HM.out
          rw [← HU.out,qT _ _ _ hz] at h1
          exact h1.uniq (lY.congr fun id _ => by simp)
        · subst hz
          have h1:=HM.out
          rw [List.take_of_length_le (by rw [HN.out];exact hie),← HU.out,jU] at h1
          refine h1.congr fun f _ => ?_
          constructor
          · rintro ⟨y,hy,h0⟩
            have hf : f < p.len:=by rw [← l2 p 5 5];exact (List.getElem?_eq_some_iff.1 hy).1
            exact ⟨hf,(yB (jZ hy)).1 h0⟩
          · rintro ⟨hf,hid⟩
            exact ⟨_,xU hf,(yB (lX _)).2 hid⟩)
      clear hm hlt
      go_wp2
      go_ret2
      rw [HE.out]
      exact ⟨rfl,HW2.out⟩
def nodK0 : List Nd:=[⟨7,1,1,0⟩,⟨9,0,0,0⟩]
def nodK1 : List Nd:=[⟨4,2,1,0⟩,⟨9,0,0,0⟩]
def pgK (g : Nat) : Pg:=⟨0,3,0,some ⟨g + 2,0,none⟩,2,2,[⟨some ⟨g,0,none⟩,2,2,nodK0⟩,⟨some ⟨g + 1,0,none⟩,2,2,nodK1⟩]⟩
def pgKW (w : World) : World:=((w.alloc (.cells #[.int .i64 7,.int .i64 1,.int .i64 1,.int .i64 0,.int .i64 9,.int .i64 0,.int .i64 0,.int .i64 0] 41)).alloc (.cells #[.int .i64 4,.int .i64 2,.int .i64 1,.int .i64 0,.int .i64 9,.int .i64 0,.int .i64 0,.int .i64 0] 41)).alloc
  (.cells #[.slice (some ⟨w.heap.size,0,none⟩) 2 2,.slice (some ⟨w.heap.size + 1,0,none⟩) 2 2] 39)
theorem pgK_ok (w : World) : (pgK w.heap.size).Ok (pgKW w) (pgKW w).heap.size:=by
  have h0 : Blk (pgKW w) w.heap.size 41 (nodK0.flatMap ndC):=((Blk.newA w 41 _ (nodK0.flatMap ndC) rfl).alloc _).alloc _
  have h1 : Blk (pgKW w) (w.heap.size + 1) 41 (nodK1.flatMap ndC):=(Blk.newAt (cs:=nodK1.flatMap ndC) rfl (by simp)).alloc _
  have h2 : Blk (pgKW w) (w.heap.size + 2) 39 ((pgK w.heap.size).fns.map fnV):=Blk.newAt rfl (by simp)
  refine ⟨by unfold I64;simp [pgK],by unfold I64;simp [pgK],by unfold I64;simp [pgK],?_,?_,Nat.le_refl _,by simp [pgK,maxLen],fun h => by cases h⟩
  · exact Blk.row (f:=fnV) (l:=(pgK w.heap.size).fns) h2 rfl (Nat.le_refl _)
  · intro f hf
    simp only [pgK,List.mem_cons,List.not_mem_nil,or_false] at hf
    rcases hf with rfl | rfl
    · exact QS h0 (by decide) 2 rfl (by omega)
    · exact QS h1 (by decide) 2 rfl (by omega)
theorem u7 (w : World) {B : Nat} {w0 : World} (h : Below B w0 w) (hB : B ≤ w.heap.size) : Below B w0 (pgKW w):=((h.alloc hB _).alloc (by simp;omega) _).alloc (by simp;omega) _
theorem XF (g : Nat) : Q.small (pgK g) = true:=by simp [Q.small,pgK,nodK0,nodK1]
theorem XG (g : Nat) : Q.check (pgK g) = (0,0,0):=by
  refine check_up (by constructor <;> simp [pgK]) (fun fn hfn => ?_) (YA (by simp [pgK,callsUp,nodK0,nodK1]))
  simp only [pgK,List.mem_cons,List.not_mem_nil,or_false] at hfn
  rcases hfn with rfl | rfl
  · exact ⟨by simp [nodK0],by simp [nodK0],by show (nodK0.all fun nd => Q.may 0 3 0 2 nd 2) = true;decide⟩
  · exact ⟨by simp [nodK1],by simp [nodK1],by show (nodK1.all fun nd => Q.may 0 3 0 2 nd 2) = true;decide⟩
theorem pgK_two (g id : Nat) {f : Nat} (h : MayDo (pgK g) 4 4 f id) : id = 2:=by
  obtain ⟨y,fn,_,hfn,x,hx,hk,ha⟩:=h
  have hm:=List.mem_of_getElem? hfn
  simp only [pgK,List.mem_cons,List.not_mem_nil,or_false] at hm
  rcases hm with rfl | rfl
  · simp only [nodK0,List.mem_cons,List.not_mem_nil,or_false] at hx
    rcases hx with rfl | rfl <;> simp at hk
  · simp only [nodK1,List.mem_cons,List.not_mem_nil,or_false] at hx
    rcases hx with rfl | rfl
    · simp at ha;omega
    · simp at hk
theorem pgK_kill (g : Nat) : killA (pgK g) 4 4 0 = [4,4]:=by
  rw [jU]
  symm
  have h1 : MayDo (pgK g) 4 4 1 2:=uC (fn:=⟨some ⟨g + 1,0,none⟩,2,2,nodK1⟩) (x:=⟨4,2,1,0⟩) rfl rfl (by simp [nodK1]) ⟨.inl rfl,rfl⟩
  have h0 : MayDo (pgK g) 4 4 0 2:=qG (y:=1) (by simp [pgK]) ⟨⟨⟨some ⟨g,0,none⟩,2,2,nodK0⟩,rfl,⟨7,1,1,0⟩,by simp [nodK0],rfl,rfl⟩,by simp [pgK]⟩ h1
  refine JI rfl fun f m hm => ?_
  have hlt:=(List.getElem?_eq_some_iff.1 hm).1
  have h4 : m = 4:=by
    rcases (by simp at hlt;omega : f = 0 ∨ f = 1) with rfl | rfl <;> (simp at hm;exact hm.symm)
  have hd : MayDo (pgK g) 4 4 f 2:=by
    rcases (by simp at hlt;omega : f = 0 ∨ f = 1) with rfl | rfl
    · exact h0
    · exact h1
  subst h4
  have h2 : (4 : Nat) = 2 ^ 2:=rfl
  refine ⟨by omega,fun id _ => ?_⟩
  rw [h2,Nat.testBit_two_pow,decide_eq_true_eq]
  constructor
  · rintro rfl;exact hd
  · intro h;exact (pgK_two g id h).symm
set_option maxRecDepth 100000 in
set_option maxHeartbeats 1600000 in
theorem jO (w : World) (ht : Tab w) : Calls Tryd.prog 7 #[] w fun e w' => e = .returned (.bool true) ∧ Below w.heap.size w w':=by
  have hw1:=ht.size
  have HT:=kp (Tab.below ht (u7 w (Below.refl _ _) (Nat.le_refl _)) hw1)
  clear ht
  go_enter Tryd.func7,Tryd.ntmps7
  go_wp2_with fail
  refine (lT _ (pgK w.heap.size) (pgKW w) (pgK_ok w) (Nat.le_refl _) (XF _) HT.out 0 0 0 (XG _) [4,4] (pgK_kill _)).mono ?_
  rintro e w1 ⟨v,rfl,hown,hb1⟩
  obtain ⟨A,c,rfl,hc1,hc2,hr⟩:=hown.readsN (n:=2) rfl
  obtain ⟨ad,x0,rfl,_,e0,hc0⟩:=hr.get (k:=0) (by omega)
  obtain ⟨_,x1,ea,_,e1,hcc1⟩:=hr.get (k:=1) (by omega);cases ea
  simp at e0 e1
  subst e0;subst e1
  rw [jT] at hc0 hcc1
  have hd0 : w1.cell? ad = some (.int .u32 4):=by simpa [Addr.add] using hc0
  have hd1 : w1.cell? ⟨ad.block,ad.off + 1,none⟩ = some (.int .u32 4):=by simpa [Addr.add] using hcc1
  have HB1 : Kept (Below w.heap.size w w1):=kp ((u7 w (Below.refl _ _) (Nat.le_refl _)).trans (hb1.mono (by simp [pgKW];omega)))
  unfold maxLen at hc2
  clear hb1 hr hown hc0 hcc1
  go_wp2
  go_ret
  exact ⟨rfl,HB1.out⟩
theorem yK (p : Pg) (c : Nat) : ∃ m,lG p c m:=by
  by_cases hc : c = 0
  · exact ⟨S.mask (setL fun f => f < p.len ∧ ∃ id,id < 32 ∧ MayDo p 5 5 f id),fun h => absurd hc h,fun _ => lX _⟩
  · exact ⟨0,fun _ => rfl,fun h => absurd h hc⟩
theorem call_in {p : Pg} {f i : Nat} {fn : Fn} {x : Nd} (hf : Fine p) (hl : p.fns.length = p.len) (hfn : p.fns[f]? = some fn) (hx : fn.nodes[i]? = some x) (h7 : x.kind = 7) : Q.calls p f x.arg.toNat ∧ x.arg.toNat < p.len ∧ x.arg = ((x.arg.toNat : Nat) : Int):=by
  have hlt:=(List.getElem?_eq_some_iff.1 hfn).1
  have hm:=(Q.fine_fn hfn (hf.nodes f hlt)).2.2 i x hx
  have ha:=yR hm h7
  have hc : Q.calls p f x.arg.toNat:=⟨fn,hfn,x,List.mem_of_getElem? hx,h7,by omega⟩
  have:=q9 hf hl hc
  exact ⟨hc,by omega,by omega⟩
theorem vB {a b : Nat} {P P' : Nat → Prop} (ha : BitsAre a P) (hb : BitsAre b P') (h : ∀ id,id < 32 → P id → P' id) : bits .andNot .u32 (a : Int) (b : Int) = 0:=by
  have h2 : S.within a b 32 = true:=(S.within_iff _ _).2 fun i hi hbit => (hb.2 i hi).2 (h i hi ((ha.2 i hi).1 hbit))
  have h3:=S.within_not a b ha.1 hb.1
  rw [h2] at h3
  rw [u32_andNot_nat a b ha.1 hb.1,of_decide_eq_true h3.symm]
  rfl
theorem L5 {p : Pg} {mb f y : Nat} (h : BitsAre mb (fun f => f < p.len ∧ ∃ id,id < 32 ∧ MayDo p 5 5 f id)) (h16 : p.len ≤ 16) (hf : f < p.len) (hc : CallIn p f y) (hy : S.has mb (y : Int) = true) : S.has mb (f : Int) = true:=by
  have hyl:=hc.2
  rw [S.has_in _ _ (by omega)] at hy ⊢
  obtain ⟨_,id,hid,hm⟩:=(h.2 y (by omega)).1 hy
  exact (h.2 f (by omega)).2 ⟨hf,id,hid,qG hf hc hm⟩
theorem yU {P : Program} {c : Code} {Q : Exit → Act → World → Prop} {A : Act} {w : World} (N : Nat) (hN : A.tmps.size = N) (hd : A.defers = []) (h : ∀ a0 : Act,Kept (a0 = A) → a0.tmps.size = N → a0.defers = [] → Code.wp P c Q a0 w) : Code.wp P c Q A w:=h A ⟨rfl⟩ hN hd
theorem gTab : Tryd.prog.globalNamed "math/bits.deBruijn32tab" = some 0:=by kernel_rfl
theorem gTabT : (Tryd.prog.globals[0]?).map (·.type) = some 129:=by kernel_rfl
theorem cellsTab : Tryd.prog.cellsOf 129 = 32:=by kernel_rfl
theorem Y0 : Tryd.prog.cellsOf 5 = 1:=by kernel_rfl
theorem laid_is : (Rows.laid_math_bits_deBruijn32tab : DataW Unit) = Lib.tabData .u8 (bruijn.map fun n : Nat => (n : Int)):=by kernel_rfl
theorem yS {W : World} (h : laidMetH Tryd.prog [("math/bits.deBruijn32tab",Rows.laid_math_bits_deBruijn32tab)] W) : Tab W:=by
  have h2 : laidMet Tryd.prog [("math/bits.deBruijn32tab",Rows.laid_math_bits_deBruijn32tab)] W:=h
  rw [laid_is] at h2
  have ht:=Lib.tabIs_of_head (rest:=[]) gTab gTabT Tryd.underlying129 Tryd.underlying5 Y0 cellsTab h2
  refine ⟨rfl,fun _ => ⟨_,rfl,by decide,fun k hk => ?_⟩⟩
  have hadd:=lQ 0 k
  have hkl : k < bruijn.length:=hk
  rw [hadd,ht.cell gTab k (by rw [List.length_map];exact hkl),List.getElem?_eq_getElem hkl,List.getD_eq_getElem?_getD,List.getElem?_map,List.getElem?_eq_getElem hkl]
  rfl
noncomputable def laidWorld (os : Os) : World :=
  { World.holding Tryd.prog os ⟨#[],#[],[]⟩ with heap:=(World.holding Tryd.prog os ⟨#[],#[],[]⟩).heap.modify 0 fun
      | .cells _ t frozen => .cells (bruijn.map byteV).toArray t frozen
      | o => o }
end Go.Proofs.YtfiafbflhglpeaaDoor
