/- Walk4, Walk5, WireP1, Parts, Tail. -/
import Derived.Test.YtcbfghcdbmlneaaPk2
import Derived.Test.YtcbfghcdbmlneaaPk1
import Derived.Lib.SliceRun
import Derived.Orders
namespace Go.Proofs.Ytcbfghcdbmlneaa
open Go.RowKit
set_option maxRecDepth 100000 in
set_option maxHeartbeats 800000 in
theorem row_any (A : Option Addr) (n c : Nat) (l : List Nat) (w : World) (hr : Row wordV w w.heap.size A n l) (hb : ∀ x ∈ l,x < 4294967296) (hn : n ≤ 100000) :
    Calls Try.prog 82 #[.slice A n c] w fun e w' => ∃ v,e = .returned v ∧ Own w' w.heap.size 5 v ((V.row l).map byteV) ∧ Below w.heap.size w w':=by
  have HR:=Lib.hid hr;clear hr
  have HB:=Lib.hid hb;clear hb
  go_enter Try.func82,Try.ntmps82
  go_wp2
  go_loop [3,11] (fun v3 v11 => ∃ k : Nat,k ≤ n ∧ v11 = .int .i64 k ∧ v3 = .int .i64 (V.sizes (l.take k) : Int)) (fun _ v11 => n - (intOf v11).toNat)
  case atStart => exact ⟨0,by omega,rfl,rfl⟩
  case round =>
    obtain ⟨k,hk,rfl,rfl⟩:=hrel
    have hsz : V.sizes (l.take k) ≤ 500000:=by
      have h1:=V.sizes_le (l.take k)
      have h2:=HR.out.len
      rw [List.length_take] at h1;omega
    by_cases hlt : k < n
    · obtain ⟨ad,x,rfl,hab,hx,hc⟩:=HR.out.get hlt
      rw [QX] at hc
      have hx32 : x < 4294967296:=HB.out x (List.mem_of_getElem? hx)
      have HT : Hid (V.sizes (l.take (k + 1)) = V.sizes (l.take k) + V.size x):=by show _ = _;rw [V.take_snoc l k x hx,V.sizes_snoc]
      have hs5:=V.size_le x
      clear hx
      go_wp2_with (go_at_call 97;refine (YM x hx32 _).mono ?_;rintro e w' ⟨rfl,rfl⟩)
      go_round
      case rel => exact ⟨k + 1,by omega,by go_num,by rw [HT.out];go_num⟩
      case measure => simp [intOf];omega
    · have hke : k = n:=by omega
      subst hke
      go_wp2_with (at_make;go_must (refine wpList_make_own _ rfl _ _ _ rfl w.heap.size 5 _ _ 1 Try.underlying26 (info_parts lG).choose_spec.1 (info_parts lG).choose_spec.2.1 (info_parts lG).choose_spec.2.2.1 _ _ _ (V.sizes (l.take k)) rfl rfl rfl (by rw [(info_parts lG).choose_spec.2.2.2];omega) (by simp [maxLen];omega) (Nat.le_refl _) ?_);intro w1 hown1 hg1)
      have hB1 : w.heap.size ≤ w1.heap.size:=hg1.size
      have HOwn1 : Hid (Own w1 w.heap.size 5 (.slice (some ⟨w.heap.size,0,none⟩) 0 (V.sizes (l.take k))) []):=hown1
      have HBel1 : Hid (Below w.heap.size w w1):=(Below.refl _ _).grown hg1 (Nat.le_refl _) (by simp)
      clear hown1 hg1
      go_loopw [6,24] (fun v6 v24 wr => ∃ j : Nat,j ≤ k ∧ v24 = .int .i64 j ∧ Own wr w.heap.size 5 v6 ((V.row (l.take j)).map byteV) ∧ Below w.heap.size w wr) (fun _ v24 _ => k - (intOf v24).toNat)
      case atStart => exact ⟨0,by omega,rfl,HOwn1.out,HBel1.out⟩
      case round =>
        obtain ⟨j,hj,rfl,hown,hbel⟩:=hrel
        have hB2 : w.heap.size ≤ wr.heap.size:=hbel.size
        have hrow : (V.row (l.take j)).length ≤ 500000:=by
          rw [V.row_len _ fun x hx => HB.out x (List.mem_of_mem_take hx)]
          have h1:=V.sizes_le (l.take j)
          have h2:=HR.out.len
          rw [List.length_take] at h1;omega
        have HOwn:=Lib.hid hown;clear hown
        have HBel:=Lib.hid hbel;clear hbel
        by_cases hlt : j < k
        · obtain ⟨ad,x,rfl,hab,hx,hc⟩:=(HR.out.below HBel.out).get hlt
          rw [QX] at hc
          have hx32 : x < 4294967296:=HB.out x (List.mem_of_getElem? hx)
          have HT : Hid (V.row (l.take (j + 1)) = V.row (l.take j) ++ V.put x):=by show _ = _;rw [V.take_snoc l j x hx,V.row_snoc]
          clear hx
          go_wp2_with (go_at_call 98;go_must (refine (add_any w.heap.size _ _ x hx32 _ HOwn.out (by simp;omega) hB2).mono ?_);rintro e w2 ⟨v2,rfl,hown2,hg2⟩;have HOwn2:=Lib.hid hown2;clear hown2;have HG2:=Lib.hid hg2;clear hg2)
          go_roundw
          case rel => exact ⟨j + 1,by omega,by go_num,by rw [HT.out,List.map_append];exact HOwn2.out,HG2.out.below HBel.out HOwn.out hB2⟩
          case measure => simp [intOf];omega
        · have hje : j = k:=by omega
          have HE : Hid (l.take j = l):=by show _ = _;rw [List.take_of_length_le (by rw [HR.out.len];omega)]
          clear hje
          go_wp2
          go_ret
          exact ⟨_,rfl,by rw [← HE.out];exact HOwn.out,HBel.out⟩
theorem Row.lit {α : Type} (f : α → Value) (w : World) (l : List α) (cs : Array Value) (hcs : cs.toList = l.map f) (e : TypeId) : Row f (w.alloc (.cells cs e)) (w.alloc (.cells cs e)).heap.size (some ⟨w.heap.size,0,none⟩) l.length l :=
  ⟨rfl,fun _ => ⟨_,rfl,by simp,fun k hk => by
    have hadd : (⟨w.heap.size,0,none⟩ : Addr).add k = ⟨w.heap.size,k,none⟩:=by unfold Addr.add;split <;> simp_all
    rw [hadd,cell_of_row _ w.heap.size k cs e (0,0) (heap_alloc_new w _),← Array.getElem?_toList,hcs,List.getElem?_map]⟩⟩
set_option maxRecDepth 100000 in
set_option maxHeartbeats 800000 in
theorem put_any (n : Nat) (hn : n < 4294967296) (w : World) :
    Calls Try.prog 57 #[.int .u32 (n : Int)] w fun e w' => ∃ v,e = .returned v ∧ Own w' w.heap.size 5 v ((V.put n).map byteV) ∧ Below w.heap.size w w':=by
  have HL:=Lib.hid (Row.lit wordV w [n] #[.int .u32 (n : Int)] rfl 124)
  have HN : Hid (∀ x ∈ [n],x < 4294967296):=by show ∀ x ∈ [n],x < 4294967296;simpa using hn
  go_enter Try.func57,Try.ntmps57
  go_wp2_with (go_at_call 82;go_must (refine (row_any _ _ _ [n] _ HL.out HN.out (by simp)).mono ?_);rintro e w2 ⟨v2,rfl,hown2,hb2⟩;have HOwn2:=Lib.hid hown2;clear hown2;have HB2:=Lib.hid hb2;clear hb2)
  go_ret
  have h:=HOwn2.out
  simp only [V.row,List.flatMap_cons,List.flatMap_nil,List.append_nil] at h
  refine ⟨v2,rfl,h.less (by simp),((Below.refl _ _).alloc (Nat.le_refl _) _).trans (HB2.out.mono (by simp))⟩
theorem uB (n : Nat) (hn : n < 4294967296) : (V.put n).length ≤ 5:=by rw [V.len_put n hn];exact V.size_le n
set_option maxRecDepth 100000 in
set_option maxHeartbeats 800000 in
theorem uW (n : Nat) (w : World) (h1 : n < 128) :
    Calls Try.prog 31 #[.int .i64 (n : Int)] w fun e w' => ∃ v,e = .returned v ∧ Own w' w.heap.size 5 v ((V.put n).map byteV) ∧ Below w.heap.size w w':=by
  go_enter Try.func31,Try.ntmps31
  go_wp2
  go_ret
  exact ⟨_,rfl,by rw [V.put_last n h1];exact Own.new w w.heap.size 5 [byteV n] (Nat.le_refl _) (by simp [maxLen]),(Below.refl _ _).alloc (Nat.le_refl _) _⟩
set_option maxRecDepth 100000 in
set_option maxHeartbeats 800000 in
theorem JW : ∀ (f n : Nat) (w : World),n < 128 ^ f → n < 4294967296 →
    Calls Try.prog 31 #[.int .i64 (n : Int)] w fun e w' => ∃ v,e = .returned v ∧ Own w' w.heap.size 5 v ((V.put n).map byteV) ∧ Below w.heap.size w w'
  | 0,n,w,h,hn => uW n w (by simp at h;omega)
  | f + 1,n,w,h,hn => by
    by_cases h1 : n < 128
    · exact uW n w h1
    · have hc:=Lib.hid (JW f (n / 128) (w.alloc (.cells #[.int .u8 (128 + (n : Int) % 128)] 5)) (by rw [Nat.pow_succ] at h;omega) (by omega))
      have HL:=Lib.hid (uB (n / 128) (by omega))
      have HN:=Lib.hid (Own.new w w.heap.size 5 [.int .u8 (128 + (n : Int) % 128)] (Nat.le_refl _) (by simp [maxLen]))
      have HP:=Lib.hid (V.put_on n h1)
      go_enter Try.func31,Try.ntmps31
      go_wp2_with fail
      refine hc.out.mono ?_
      rintro e w1 ⟨v1,rfl,hown1,hb1⟩
      have hB1 : w.heap.size ≤ w1.heap.size:=by have:=hb1.size;simp at this;omega
      have HN1:=Lib.hid (HN.out.below hb1 (Nat.le_refl _))
      have HB1 : Hid (Below w.heap.size w w1):=((Below.refl _ _).alloc (Nat.le_refl _) _).trans (hb1.mono (by simp))
      obtain ⟨A,cap,rfl,hcap,_,hr⟩:=hown1.bytes
      have HR:=Lib.hid hr.vals
      clear hown1 hr hb1
      go_wp2_with (at_builtin;go_must (refine lX rfl (.tmp 12) (.tmp 15) 26 rfl w.heap.size 5 _ _ Try.underlying26 lG rfl w1 _ _ rfl HN1.out A _ cap _ _ rfl HR.out (ones _ vK _) (by have:=HL.out;simp [maxLen];omega) (by have:=HL.out;simp;omega) hB1 ?_);intro v2 w2 hown2 hg2;have HO2:=Lib.hid hown2;clear hown2;have HG2:=Lib.hid hg2;clear hg2)
      go_ret
      exact ⟨v2,rfl,by rw [HP.out,List.map_cons];have h:=HO2.out;rw [add_byte n] at h;exact h,HG2.out.below HB1.out HN1.out hB1⟩
theorem ref_put (n : Nat) (hn : n < 4294967296) (w : World) :
    Calls Try.prog 31 #[.int .i64 (n : Int)] w fun e w' => ∃ v,e = .returned v ∧ Own w' w.heap.size 5 v ((V.put n).map byteV) ∧ Below w.heap.size w w' :=
  JW 5 n w (V.five n hn) hn
set_option maxRecDepth 100000 in
set_option maxHeartbeats 800000 in
theorem JM (B : Nat) (A : Option Addr) (n c : Nat) (bs : List Nat) (w : World) (hr : Row byteV w B A n bs) (hn : n ≤ 1000000) (hB : B ≤ w.heap.size) :
    Calls Try.prog 58 #[.slice A n c] w fun e w' => ∃ v,e = .returned v ∧ Own w' w.heap.size 5 v (bs.map byteV) ∧ Below w.heap.size w w':=by
  cases A with
  | none =>
    have hn0 : n = 0:=by
      rcases Nat.eq_zero_or_pos n with h0 | h0
      · exact h0
      · obtain ⟨_,h,_⟩:=hr.cells h0;cases h
    have hbs : bs = []:=List.eq_nil_of_length_eq_zero (by rw [hr.len];exact hn0)
    subst hbs
    clear hr
    have hnil : (binOp .eql 26 (.slice none n c) (.slice none 0 0)).run Try.prog w = .ok (.bool true) w:=Lib.run_eql_slice_nil w _ _ none n c 0 0 Try.underlying26
    subst hn0
    go_enter Try.func58,Try.ntmps58
    go_wp2
    go_ret
    exact ⟨_,rfl,Own.nil _ _ _,Below.refl _ _⟩
  | some ad =>
    have HB0 : Kept (Below w.heap.size w (w.alloc (.cells #[] 5))):=kp ((Below.refl _ _).alloc (Nat.le_refl _) _)
    have HR:=kp ((hr.below (HB0.out.mono hB)).vals)
    have HO0 : Kept (Own (w.alloc (.cells #[] 5)) w.heap.size 5 (.slice (some ⟨w.heap.size,0,none⟩) 0 0) []):=kp (Own.new w w.heap.size 5 [] (Nat.le_refl _) (by simp))
    clear hr
    have hnil : (binOp .eql 26 (.slice (some ad) n c) (.slice none 0 0)).run Try.prog w = .ok (.bool false) w:=Lib.run_eql_slice_nil w _ _ (some ad) n c 0 0 Try.underlying26
    go_enter Try.func58,Try.ntmps58
    go_wp2_with (at_builtin;go_must (refine lX rfl (.tmp 5) (.tmp 6) 26 rfl w.heap.size 5 _ _ Try.underlying26 lG rfl _ _ [] rfl HO0.out (some ad) n c B _ rfl HR.out (ones _ vK _) (by simp [maxLen];omega) (by simp;omega) (by simp) ?_);intro v1 w1 hown1 hg1;have HO1:=kp hown1;clear hown1;have HG1:=kp hg1;clear hg1)
    go_ret
    refine ⟨_,rfl,by simpa using HO1.out,HG1.out.below HB0.out HO0.out (by simp)⟩
def Wr (w : World) (S : Nat → Prop) (g : Nat) (bs : List Nat) : Prop :=
  ∃ v,Blk w g 71 [v] ∧ Own w 0 5 v (bs.map byteV) ∧ v.ownBlock ≠ some g ∧ ¬ S g ∧ (∀ k,v.ownBlock = some k → ¬ S k) ∧ ∀ k,S k → k < w.heap.size
theorem Wr.below {w w' : World} {S S' : Nat → Prop} {g : Nat} {bs : List Nat} (h : Wr w S g bs) (hb : Below w.heap.size w w') (hS : ∀ k,S' k → S k ∨ (w.heap.size ≤ k ∧ k < w'.heap.size)) : Wr w' S' g bs:=by
  obtain ⟨v,h1,h2,h3,h4,h5,h6⟩:=h
  have hg:=h1.lt
  refine ⟨v,h1.below hb hg,h2.below hb (Nat.le_refl _),h3,fun hs => ?_,fun k hk hs => ?_,fun k hk => ?_⟩
  · rcases hS g hs with h | h
    · exact h4 h
    · omega
  · have:=(h2.block k hk).2
    rcases hS k hs with h | h
    · exact h5 k hk h
    · omega
  · have:=hb.size
    rcases hS k hk with h | h
    · have:=h6 k h;omega
    · exact h.2
theorem Wr.less {w : World} {S S' : Nat → Prop} {g : Nat} {bs : List Nat} (h : Wr w S g bs) (hS : ∀ k,S' k → S k) : Wr w S' g bs:=by
  obtain ⟨v,h1,h2,h3,h4,h5,h6⟩:=h
  exact ⟨v,h1,h2,h3,fun h => h4 (hS _ h),fun k hk h => h5 k hk (hS _ h),fun k h => h6 k (hS _ h)⟩
theorem Wr.drewN {w : World} {S : Nat → Prop} {g : Nat} {bs : List Nat} (h : Wr w S g bs) (n : Nat) : Wr (w.drewN n) S g bs:=h.below (below_drewN (Below.refl _ _) n) fun _ h => .inl h
set_option maxRecDepth 100000 in
set_option maxHeartbeats 800000 in
theorem wr_raw (S : Nat → Prop) (g C : Nat) (bs new : List Nat) (A : Option Addr) (n c : Nat) (w : World) (hk : Wr w S g bs) (hr : Row byteV w C A n new) (hn : bs.length + n ≤ 1000000) :
    Calls Try.prog 26 #[.pointer (some ⟨g,0,none⟩),.slice A n c] w fun e w' => e = .returned (.tuple #[]) ∧ Wr w' S g (bs ++ new) ∧ Held S w w':=by
  obtain ⟨v,hblk,hown,hne,hS1,hS2,hS3⟩:=hk
  have HK:=kp hblk;have HO:=kp hown;have HR:=kp hr.vals;have HNe:=kp hne
  have HS1:=kp hS1;have HS2:=kp hS2;have HS3:=kp hS3
  have hc : w.cell? ⟨g,0,none⟩ = some v:=hblk.cell 0
  have hgs:=hblk.lt
  clear hblk hown hr hne hS1 hS2 hS3
  go_enter Try.func26,Try.ntmps26
  go_wp2_with (first
    | (at_builtin;go_must (refine lX rfl (.tmp 8) (.tmp 9) 26 rfl 0 5 _ _ Try.underlying26 lG rfl w v _ rfl HO.out A n c C _ rfl HR.out (ones _ vK _) (by simp [maxLen];omega) (by simp;omega) (Nat.zero_le _) ?_);intro v1 w1 hown1 hg1
       have HK1:=kp (HK.out.grown hg1.1 (fun e => HNe.out e.symm))
       have hf1:=HK1.out.frozen 0
       have hc1 : w1.cell? ⟨g,0,none⟩ = some v:=HK1.out.cell 0
       have HO1:=kp hown1;have HG1:=kp hg1
       obtain ⟨A1,c1,e1,_⟩:=hown1.form
       generalize (List.map byteV bs ++ List.map byteV new).length = n1 at e1
       subst e1
       clear hown1 hg1 hc))
  go_end0
  have hsz:=HG1.out.size
  have hne1 : (Value.slice A1 n1 c1).ownBlock ≠ some g:=by
    rcases HG1.out.2 with h | h
    · rw [h];exact HNe.out
    · intro e
      have:=h g e
      omega
  refine ⟨rfl,⟨_,HK1.out.set 0 _,?_,hne1,HS1.out,fun k hk hs => ?_,fun k hk => ?_⟩,?_⟩
  · rw [List.map_append]
    exact HO1.out.far (jN (g:=g) (jK _ _)) (.inr hne1)
  · rcases HG1.out.2 with h | h
    · exact HS2.out k (by rw [← h];exact hk) hs
    · have:=h k hk
      have:=HS3.out k hs
      omega
  · have:=HS3.out k hk
    simp;omega
  · refine (Held.of_grown (row:=v.ownBlock) HG1.out.1 fun k hk => ⟨HS3.out k hk,fun e => HS2.out k e.symm hk⟩).trans (Held.of_grown (row:=some g) (jN (jK _ _)) fun k hk => ⟨?_,fun e => ?_⟩)
    · have:=HS3.out k hk;omega
    · cases e;exact HS1.out hk
def low32 (n : Int) : Nat:=(n % 4294967296).toNat
theorem J0 (n : Int) : low32 n < 4294967296:=by unfold low32;omega
theorem low32_nat (n : Nat) (h : n < 4294967296) : low32 (n : Int) = n:=by unfold low32;omega
set_option maxRecDepth 100000 in
set_option maxHeartbeats 800000 in
theorem XN (S : Nat → Prop) (g : Nat) (bs : List Nat) (n : Int) (w : World) (hk : Wr w S g bs) (hn : bs.length ≤ 900000) :
    Calls Try.prog 28 #[.pointer (some ⟨g,0,none⟩),.int .i64 n] w fun e w' => e = .returned (.tuple #[]) ∧ Wr w' S g (bs ++ V.put (low32 n)) ∧ Held S w w':=by
  have HK:=kp hk
  have hlt:=J0 n
  have hw : IntKind.u32.wrap n = ((low32 n : Nat) : Int):=by
    show n % 4294967296 = _
    unfold low32;omega
  have HP:=kp (uB (low32 n) hlt)
  generalize low32 n = m at *
  clear hk
  go_enter Try.func28,Try.ntmps28
  go_wp2_with (first
    | (go_at_call 57;go_must (refine (put_any m hlt w).mono ?_);rintro e w1 ⟨v,rfl,hown,hb1⟩
       obtain ⟨A1,c1,rfl,hc1,hm1,hr1⟩:=hown.bytes
       have HR1:=kp hr1
       have HK1:=kp (HK.out.below hb1 fun _ h => .inl h)
       have HB1 : Kept (Held S w w1):=kp (Held.of_below hb1 fun k h => by obtain ⟨_,_,_,_,_,_,h6⟩:=HK.out;exact h6 k h)
       clear hown hr1 hm1 hb1)
    | (go_at_call 26;go_must (refine (wr_raw S g _ bs _ A1 _ c1 w1 HK1.out HR1.out (by have:=HP.out;omega)).mono ?_);rintro e w2 ⟨rfl,hk2,hb2⟩;have HK2:=kp hk2;have HB2:=kp (HB1.out.trans hb2);clear hk2 hb2))
  go_end0
  exact ⟨rfl,HK2.out,HB2.out⟩
set_option maxRecDepth 100000 in
set_option maxHeartbeats 800000 in
theorem wr_block (S : Nat → Prop) (g C : Nat) (bs new : List Nat) (A : Option Addr) (n c : Nat) (w : World) (hk : Wr w S g bs) (hr : Row byteV w C A n new) (hS : ∀ ad,0 < n → A = some ad → S ad.block) (hn : bs.length + n ≤ 800000) :
    Calls Try.prog 27 #[.pointer (some ⟨g,0,none⟩),.slice A n c] w fun e w' => e = .returned (.tuple #[]) ∧ Wr w' S g (bs ++ V.put n ++ new) ∧ Held S w w':=by
  have HK:=kp hk;have HR:=kp hr;have HS:=kp hS
  have HP:=kp (uB n (by omega))
  have hlow:=low32_nat n (by omega)
  clear hk hr hS
  go_enter Try.func27,Try.ntmps27
  go_wp2_with (first
    | (go_at_call 28;go_must (refine (XN S g bs (n : Int) w HK.out (by omega)).mono ?_);rintro e w1 ⟨rfl,hk1,hb1⟩;rw [hlow] at hk1;have HK1:=kp hk1;have HB1:=kp hb1;have HR1:=kp (HR.out.heldAt hb1 HS.out);clear hk1 hb1)
    | (go_at_call 26;go_must (refine (wr_raw S g C _ new A n c w1 HK1.out HR1.out (by rw [List.length_append];have:=HP.out;omega)).mono ?_);rintro e w2 ⟨rfl,hk2,hb2⟩;have HK2:=kp hk2;have HB2:=kp (HB1.out.trans hb2);clear hk2 hb2))
  go_end0
  exact ⟨rfl,HK2.out,HB2.out⟩
structure Fact where
  holds : Value → World → Prop
  stays : ∀ v w w',Below w.heap.size w w' → holds v w → holds v w'
def Fact.any : Fact:=⟨fun _ _ => True,fun _ _ _ _ h => h⟩
def Fact.is (c : Value) : Fact:=⟨fun v _ => v = c,fun _ _ _ _ h => h⟩
def slotOf (o : Oper) (a : Act) : Value:=match o.dst with
  | some d => a.tmps.getD d undef
  | none => undef
def PartPost (D : List Deferred) (W : World) (o : Oper) (R : Fact) : Exit → Act → World → Prop
  | .normal,a,w => a.defers = D ∧ Below W.heap.size W w ∧ R.holds (slotOf o a) w
  | _,_,_ => False
def factAt (R : List Fact) (i : Nat) : Fact:=R.getD i .any
def given (R : List Fact) (W : World) (G : Act → Prop) : List (Nat × Nat) → Act → Prop
  | [],a => G a
  | p :: ps,a => ∀ v,(factAt R p.1).holds v W → given R W G ps (a.put (some p.2) v)
def fill (a : Act) : List (Nat × Nat) → Act → Act
  | [],b => b
  | p :: ps,b => fill a ps (b.put (some p.2) (a.tmps.getD p.2 undef))
theorem yB {R : List Fact} {W : World} {G : Act → Prop} {a : Act} : ∀ (ps : List (Nat × Nat)) (b : Act),given R W G ps b → (∀ p ∈ ps,(factAt R p.1).holds (a.tmps.getD p.2 undef) W) → G (fill a ps b)
  | [],_,h,_ => h
  | p :: ps,_,h,hp => yB ps _ (h _ (hp p (List.mem_cons_self))) fun q hq => hp q (List.mem_cons_of_mem _ hq)
theorem zP (b : Act) (d : Option Tmp) (v : Value) : (b.put d v).tmps.size = b.tmps.size:=by cases d <;> simp [Act.put]
theorem yJ (b : Act) (d : Option Tmp) (v : Value) : (b.put d v).defers = b.defers:=by cases d <;> rfl
theorem vN (a : Act) : ∀ (ps : List (Nat × Nat)) (b : Act),(fill a ps b).tmps.size = b.tmps.size
  | [],_ => rfl
  | _ :: ps,b => (vN a ps _).trans (zP b _ _)
theorem xI (a : Act) : ∀ (ps : List (Nat × Nat)) (b : Act),(fill a ps b).defers = b.defers
  | [],_ => rfl
  | _ :: ps,b => (xI a ps _).trans (yJ b _ _)
theorem xG (b : Act) (d t : Nat) (v : Value) : (b.put (some d) v).tmps[t]? = if d = t ∧ t < b.tmps.size then some v else b.tmps[t]?:=by
  simp only [Act.put,Array.getElem?_setIfInBounds]
  by_cases h : d = t
  · subst h
    by_cases h1 : d < b.tmps.size
    · simp [h1]
    · simp [h1]
  · simp [h]
theorem xU (a : Act) : ∀ (ps : List (Nat × Nat)) (b : Act) (t : Nat),(fill a ps b).tmps[t]? = if t ∈ ps.map (·.2) ∧ t < b.tmps.size then some (a.tmps.getD t undef) else b.tmps[t]?
  | [],b,t => by simp [fill]
  | p :: ps,b,t => by
    rw [fill,xU a ps _ t,zP,xG]
    by_cases h1 : t ∈ ps.map (·.2) <;> by_cases h2 : t < b.tmps.size <;> by_cases h3 : p.2 = t
    all_goals first
      | (subst h3;simp [h1,h2];done)
      | (have h4 : ¬ t = p.2:=fun e => h3 e.symm
         simp [h1,h2,h3,h4])
def isSelect : Op → Bool
  | .select _ _ => true
  | _ => false
theorem isSelect_of {op : Op} (h : isSelect op = false) : ∀ cs b,op ≠ .select cs b:=by
  rintro cs b rfl;cases h
def waits (o : Oper) : List Nat:=(o.after.toList.filter fun e => Region.binds .any e).map (·.on)
def opOk (ops : Array Oper) (D : List (List (Nat × Nat))) (every : List (Nat × Nat)) (N i : Nat) (o : Oper) : Bool :=
  !isSelect o.op && (waits o).all (fun j => decide (j < i)) &&
  (match o.dst with
   | some d => decide (d < N) && every.contains (i,d) && (List.range ops.size).all (fun j => decide (j = i) || ((ops[j]?).bind (·.dst)) != some d)
   | none => true) &&
  (D.getD i []).all (fun p => ((ops[p.1]?).bind (·.dst)) == some p.2 && (waits o).contains p.1) &&
  (o.looksAt ops).all (fun t => (List.range ops.size).all fun j => ((ops[j]?).bind (·.dst)) != some t || (D.getD i []).contains (j,t) || ((ops[j]?).map fun oj => (waits oj).contains i).getD false)
def partsOk (ops : Array Oper) (D : List (List (Nat × Nat))) (every : List (Nat × Nat)) (N : Nat) : Bool :=
  (List.range ops.size).all (fun i => ((ops[i]?).map (opOk ops D every N i)).getD false) && every.all (fun p => ((ops[p.1]?).bind (·.dst)) == some p.2)
structure OpOk (ops : Array Oper) (D : List (List (Nat × Nat))) (every : List (Nat × Nat)) (N i : Nat) (o : Oper) : Prop where
  sel : ∀ cs b,o.op ≠ .select cs b
  back : ∀ e ∈ o.after,Region.binds .any e = true → e.on < i
  dst : ∀ d,o.dst = some d → d < N ∧ (i,d) ∈ every ∧ ∀ j oj,ops[j]? = some oj → j ≠ i → oj.dst ≠ some d
  deps : ∀ p ∈ D.getD i [],(∃ oj,ops[p.1]? = some oj ∧ oj.dst = some p.2) ∧ ∃ e ∈ o.after,Region.binds .any e = true ∧ e.on = p.1
  looks : ∀ t ∈ o.looksAt ops,∀ j oj,ops[j]? = some oj → oj.dst = some t → (j,t) ∈ D.getD i [] ∨ ∃ e ∈ oj.after,Region.binds .any e = true ∧ e.on = i
theorem vM {o : Oper} {j : Nat} : j ∈ waits o ↔ ∃ e ∈ o.after,Region.binds .any e = true ∧ e.on = j:=by
  simp only [waits,List.mem_map,List.mem_filter,Array.mem_toList_iff]
  constructor
  · rintro ⟨e,⟨h1,h2⟩,h3⟩;exact ⟨e,h1,h2,h3⟩
  · rintro ⟨e,h1,h2,h3⟩;exact ⟨e,⟨h1,h2⟩,h3⟩
theorem OpOk.of {ops : Array Oper} {D : List (List (Nat × Nat))} {every : List (Nat × Nat)} {N i : Nat} {o : Oper} (h : opOk ops D every N i o = true) : OpOk ops D every N i o:=by
  unfold opOk at h
  simp only [Bool.and_eq_true] at h
  obtain ⟨⟨⟨⟨h1,h2⟩,h3⟩,h4⟩,h5⟩:=h
  refine ⟨isSelect_of (by simpa using h1),fun e he hb => ?_,fun d hd => ?_,fun p hp => ?_,fun t ht j oj hj hd => ?_⟩
  · have:=List.all_eq_true.1 h2 e.on (vM.2 ⟨e,he,hb,rfl⟩)
    simpa using this
  · rw [hd] at h3
    simp only [Bool.and_eq_true,decide_eq_true_eq,List.contains_iff_mem] at h3
    refine ⟨h3.1.1,h3.1.2,fun j oj hj hne => ?_⟩
    have hlt : j < ops.size:=(Array.getElem?_eq_some_iff.1 hj).1
    have:=List.all_eq_true.1 h3.2 j (List.mem_range.2 hlt)
    rw [hj] at this
    simpa [hne] using this
  · have:=List.all_eq_true.1 h4 p hp
    simp only [Bool.and_eq_true,beq_iff_eq,List.contains_iff_mem] at this
    refine ⟨?_,vM.1 this.2⟩
    obtain ⟨oj,h6,h7⟩:=Option.bind_eq_some_iff.1 this.1
    exact ⟨oj,h6,h7⟩
  · have hlt : j < ops.size:=(Array.getElem?_eq_some_iff.1 hj).1
    have:=List.all_eq_true.1 (List.all_eq_true.1 h5 t ht) j (List.mem_range.2 hlt)
    rw [hj] at this
    simp only [Option.bind_some,hd,bne_self_eq_false,Bool.false_or,Option.map_some,Option.getD_some,Bool.or_eq_true,List.contains_iff_mem] at this
    rcases this with h | h
    · exact .inl h
    · exact .inr (vM.1 h)
section
variable {P : Program} {ops : Array Oper} {Q : Exit → Act → World → Prop} {a0 : Act} {w : World} {R : List Fact} {D : List (List (Nat × Nat))} {every : List (Nat × Nat)}
structure PInv (ops : Array Oper) (R : List Fact) (a0 : Act) (w : World) (listed : Array Bool) (a : Act) (W : World) : Prop where
  size : listed.size = ops.size
  ext : Below w.heap.size w W
  defs : a.defers = a0.defers
  tsz : a.tmps.size = a0.tmps.size
  got : ∀ j oj d,ops[j]? = some oj → oj.dst = some d → listed.getD j false = true → (factAt R j).holds (a.tmps.getD d undef) W
  old : ∀ t,(∀ j oj,ops[j]? = some oj → oj.dst = some t → listed.getD j false = false) → a.tmps[t]? = a0.tmps[t]?
  shut : ∀ j oj,ops[j]? = some oj → listed.getD j false = true → ∀ e ∈ oj.after,Region.binds .any e = true → listed.getD e.on false = true
theorem yK (a : Act) (t : Nat) (h : t < a.tmps.size) : a.tmps[t]? = some (a.tmps.getD t undef):=by
  simp [h]
theorem xL : ∀ (l : List Bool) (i : Nat),l[i]? = some false → (l.set i true).count false + 1 = l.count false
  | [],i,h => by simp at h
  | b :: l,0,h => by
    simp at h;subst h
    simp
  | b :: l,i + 1,h => by
    have:=xL l i (by simpa using h)
    cases b <;> simp <;> omega
theorem yE (hok : ∀ i o,ops[i]? = some o → OpOk ops D every a0.tmps.size i o) {listed : Array Bool} (hs : listed.size = ops.size) (hr : Region.ready .any ops listed = []) :
    ∀ j,j < ops.size → listed.getD j false = true:=by
  intro j
  induction j using Nat.strongRecOn with
  | _ j ih =>
    intro hj
    cases hl : listed.getD j false
    · exfalso
      have hl2 : listed.getD j true = false:=by
        have : j < listed.size:=by omega
        simp [this] at hl ⊢;exact hl
      have hm : j ∈ Region.ready .any ops listed:=mem_ready.2 ⟨hl2,ops[j],Array.getElem?_eq_getElem hj,fun e he hb =>
        have hlt:=(hok j _ (Array.getElem?_eq_getElem hj)).back e he hb
        ih e.on hlt (by omega)⟩
      rw [hr] at hm
      cases hm
    · rfl
theorem PInv.step {listed : Array Bool} {a : Act} {W W' : World} {i : Nat} {o : Oper} {v : Value} (h : PInv ops R a0 w listed a W) (hi : ops[i]? = some o) (hok : OpOk ops D every a0.tmps.size i o)
    (hr : i ∈ Region.ready .any ops listed) (hb : Below W.heap.size W W') (hv : ∀ d,o.dst = some d → (factAt R i).holds v W') : PInv ops R a0 w (listed.setIfInBounds i true) (a.put o.dst v) W':=by
  obtain ⟨hl,o',ho',hall⟩:=mem_ready.1 hr
  have hoo : o' = o:=by rw [hi] at ho';cases ho';rfl
  subst hoo
  have hilt : i < ops.size:=(Array.getElem?_eq_some_iff.1 hi).1
  have hii : (listed.setIfInBounds i true).getD i false = true:=by
    have : i < listed.size:=by rw [h.size];exact hilt
    simp [this]
  refine ⟨by simp [h.size],h.ext.trans (hb.mono h.ext.size),(yJ _ _ _).trans h.defs,(zP _ _ _).trans h.tsz,fun j oj d hj hd hlj => ?_,fun t ht => ?_,fun j oj hj hlj e he hbe => ?_⟩
  · by_cases hji : j = i
    · subst hji
      have : oj = o':=by rw [hi] at hj;cases hj;rfl
      subst this
      have hlt:=(hok.dst d hd).1
      rw [hd]
      have e1 : (a.put (some d) v).tmps.getD d undef = v:=by
        have:=xG a d d v
        rw [if_pos ⟨rfl,by rw [h.tsz];exact hlt⟩] at this
        simp [Array.getD_eq_getD_getElem?,this]
      rw [e1]
      exact hv d hd
    · have h1:=h.got j oj d hj hd (by rw [getD_set_ne false (Ne.symm hji)] at hlj;exact hlj)
      have e1 : (a.put o'.dst v).tmps.getD d undef = a.tmps.getD d undef:=by
        cases hod : o'.dst with
        | none => rfl
        | some d' =>
          have hne : d' ≠ d:=fun e => (hok.dst d' hod).2.2 j oj hj hji (by rw [e];exact hd)
          have:=xG a d' d v
          rw [if_neg (fun hh => hne hh.1)] at this
          simp [Array.getD_eq_getD_getElem?,this]
      rw [e1]
      exact (factAt R j).stays _ _ _ hb h1
  · have h1:=h.old t fun j oj hj hd => by
      have:=ht j oj hj hd
      by_cases hji : j = i
      · subst hji;rw [hii] at this;cases this
      · rwa [getD_set_ne false (Ne.symm hji)] at this
    cases hod : o'.dst with
    | none => exact h1
    | some d' =>
      have hne : d' ≠ t:=fun e => by
        have:=ht i o' hi (by rw [hod,e])
        rw [hii] at this;cases this
      rw [xG,if_neg (fun hh => hne hh.1)]
      exact h1
  · by_cases hji : j = i
    · subst hji
      have : oj = o':=by rw [hi] at hj;cases hj;rfl
      subst this
      exact getD_set_true (hall e he hbe)
    · rw [getD_set_ne false (Ne.symm hji)] at hlj
      exact getD_set_true (h.shut j oj hj hlj e he hbe)
theorem QC {listed : Array Bool} {a : Act} {W : World} {K : Act → World → Prop} {i : Nat} {o : Oper} (hi : ops[i]? = some o) (ok : OpOk ops D every a0.tmps.size i o)
    (hob : ∀ W,Below w.heap.size w W → given R W (fun a1 => wpList P ops (PartPost a0.defers W o (factAt R i)) [o] a1 W) (D.getD i []) a0)
    (h : PInv ops R a0 w listed a W) (hr : i ∈ Region.ready .any ops listed) (hK : ∀ a' W',PInv ops R a0 w (listed.setIfInBounds i true) a' W' → K a' W') : wpOp P ops Q i K a W:=by
  obtain ⟨hl,o',hi',hall'⟩:=mem_ready.1 hr
  have hall : ∀ e ∈ o.after,Region.binds .any e = true → listed.getD e.on false = true:=by
    rw [hi] at hi';cases hi';exact hall'
  have hlf : listed.getD i false = false:=by
    have : i < listed.size:=by rw [h.size];exact (Array.getElem?_eq_some_iff.1 hi).1
    simp [this] at hl ⊢;exact hl
  have hg:=yB (a:=a) (D.getD i []) a0 (hob W h.ext) fun p hp => by
    obtain ⟨⟨oj,hj,hd⟩,e,he,hb,hon⟩:=ok.deps p hp
    exact h.got p.1 oj p.2 hj hd (by rw [← hon];exact hall e he hb)
  generalize ha1 : fill a (D.getD i []) a0 = a1 at hg
  have agree : ∀ t ∈ o.looksAt ops,a.tmps[t]? = a1.tmps[t]?:=by
    intro t ht
    rw [← ha1,xU]
    by_cases hc : t ∈ (D.getD i []).map (·.2) ∧ t < a0.tmps.size
    · rw [if_pos hc,yK a t (by rw [h.tsz];exact hc.2)]
    · rw [if_neg hc]
      by_cases htl : t < a0.tmps.size
      · refine h.old t fun j oj hj hd => ?_
        rcases ok.looks t ht j oj hj hd with hin | ⟨e,he,hb,hon⟩
        · exact absurd ⟨List.mem_map.2 ⟨(j,t),hin,rfl⟩,htl⟩ hc
        · cases hlj : listed.getD j false
          · rfl
          · have:=h.shut j oj hj hlj e he hb
            rw [hon,hlf] at this;cases this
      · have n1 : a.tmps[t]? = none:=Array.getElem?_eq_none (by rw [h.tsz];exact Nat.le_of_not_lt htl)
        have n2 : a0.tmps[t]? = none:=Array.getElem?_eq_none (Nat.le_of_not_lt htl)
        rw [n1,n2]
  have hex : execOp a1.eval o = execOp a.eval o:=execOp_congr o ok.sel fun x hx => by
    cases x with
    | tmp t =>
      have:=agree t (List.mem_append_left _ (List.mem_filterMap.2 ⟨.tmp t,by simpa using hx,rfl⟩))
      simp [Act.eval,Array.getD_eq_getD_getElem?,this]
    | _ => rfl
  have hwt : Region.wanted o (yielded ops a1.tmps) = Region.wanted o (yielded ops a.tmps):=by
    unfold Region.wanted
    cases hgd : o.guard with
    | none => rfl
    | some gw =>
      obtain ⟨g,want⟩:=gw
      have hy : yielded ops a1.tmps g = yielded ops a.tmps g:=by
        unfold yielded
        cases ht : (ops[g]?).bind (·.dst) with
        | none => rfl
        | some t =>
          have:=agree t (by simp [Oper.looksAt,hgd,ht])
          simp [this]
      simp only [hy]
  have hsl : ∀ v d,o.dst = some d → slotOf o (a1.put o.dst v) = v:=by
    intro v d hd
    have hlt:=(ok.dst d hd).1
    have:=xG a1 d d v
    rw [if_pos ⟨rfl,by rw [← ha1,vN];exact hlt⟩] at this
    simp [slotOf,hd,Array.getD_eq_getD_getElem?,this]
  have done : ∀ v W',PartPost a0.defers W o (factAt R i) .normal (a1.put o.dst v) W' → K (a.put o.dst v) W':=by
    rintro v W' ⟨_,hb,hv⟩
    refine hK _ _ (h.step hi ok hr hb fun d hd => ?_)
    rw [hsl v d hd] at hv
    exact hv
  unfold wpOp
  simp only [hi]
  rw [← hwt]
  unfold wpList at hg
  by_cases hw : Region.wanted o (yielded ops a1.tmps) = true
  · rw [if_pos hw] at hg ⊢
    rcases hg with hg | ⟨_,_,_,hf⟩
    case inr => exact hf.elim
    refine .inl ?_
    unfold Oper.wp at hg ⊢
    rw [hex] at hg
    generalize (execOp a.eval o).run P W = r at *
    cases r with
    | ok n w' =>
      cases n <;> simp only [Oper.upon] at hg ⊢
      case value v => exact done v w' hg
      case skip => exact done undef w' hg
      case defer d =>
        obtain ⟨hd,_⟩:=hg
        rw [yJ] at hd
        have e1 : a1.defers = a0.defers:=by rw [← ha1];exact xI _ _ _
        simp only [e1] at hd
        exact absurd hd (by simp)
      case enter f args =>
        refine Calls.mono hg fun e w'' he => ?_
        cases e with
        | returned v => exact done v w'' he
        | panicked c => exact he.elim
        | outgrown => obtain ⟨_,_,hf⟩:=he;exact hf.elim
      case row row args => exact Rows.mono hg fun v w'' he => done v w'' he
    | halt x w' =>
      cases x <;> simp only [Oper.upon] at hg ⊢
      case panic v => exact hg.elim
  · rw [if_neg hw] at hg ⊢
    exact done undef W hg
theorem parts_any (hok : ∀ i o,ops[i]? = some o → OpOk ops D every a0.tmps.size i o) (hev : ∀ p ∈ every,∃ oj,ops[p.1]? = some oj ∧ oj.dst = some p.2)
    (hob : ∀ i o,ops[i]? = some o → ∀ W,Below w.heap.size w W → given R W (fun a1 => wpList P ops (PartPost a0.defers W o (factAt R i)) [o] a1 W) (D.getD i []) a0)
    (hend : ∀ W,Below w.heap.size w W → given R W (fun a => Q .normal a W) every a0) :
    ∀ (fuel : Nat) (listed : Array Bool) (a : Act) (W : World),PInv ops R a0 w listed a W → listed.toList.count false ≤ fuel → wpAny P .any ops Q fuel listed a W:=by
  have fin : ∀ (listed : Array Bool) (a : Act) (W : World),PInv ops R a0 w listed a W → (∀ j,j < ops.size → listed.getD j false = true) → Q .normal a W:=by
    intro listed a W h hall
    have h1:=yB (a:=a) every a0 (hend W h.ext) fun p hp => by
      obtain ⟨oj,hj,hd⟩:=hev p hp
      exact h.got p.1 oj p.2 hj hd (hall p.1 (Array.getElem?_eq_some_iff.1 hj).1)
    have e1 : fill a every a0 = a:=by
      have e2 : (fill a every a0).tmps = a.tmps:=by
        apply Array.ext_getElem?
        intro t
        rw [xU]
        by_cases hc : t ∈ every.map (·.2) ∧ t < a0.tmps.size
        · rw [if_pos hc,yK a t (by rw [h.tsz];exact hc.2)]
        · rw [if_neg hc]
          by_cases ht : t < a0.tmps.size
          · refine (h.old t fun j oj hj hd => ?_).symm
            exfalso
            exact hc ⟨List.mem_map.2 ⟨(j,t),((hok j oj hj).dst t hd).2.1,rfl⟩,ht⟩
          · rw [Array.getElem?_eq_none (by omega),Array.getElem?_eq_none (by rw [h.tsz];omega)]
      have e3:=(xI a every a0).trans h.defs.symm
      cases hf : fill a every a0
      cases a
      rw [hf] at e2 e3
      simp only at e2 e3
      rw [e2,e3]
    rw [e1] at h1
    exact h1
  have one : ∀ (fuel : Nat) (listed : Array Bool) (a : Act) (W : World) (K : Act → World → Prop) (i : Nat),PInv ops R a0 w listed a W → i ∈ Region.ready .any ops listed →
      (∀ a' W',PInv ops R a0 w (listed.setIfInBounds i true) a' W' → K a' W') → wpOp P ops Q i K a W:=by
    intro fuel listed a W K i h hr hK
    obtain ⟨_,o,hi,_⟩:=mem_ready.1 hr
    exact QC hi (hok i o hi) (hob i o hi) h hr hK
  intro fuel
  induction fuel with
  | zero =>
    intro listed a W h hc
    have hall : ∀ j,j < ops.size → listed.getD j false = true:=by
      intro j hj
      have hn : false ∉ listed.toList:=List.count_eq_zero.1 (by omega)
      have hjl : j < listed.size:=by rw [h.size];exact hj
      cases hb : listed[j]
      · exact absurd (by rw [← hb];exact Array.getElem_mem_toList hjl) hn
      · simp [hjl,hb]
    refine ⟨?_,fin _ _ _ h hall⟩
    cases hr : Region.ready .any ops listed with
    | nil => rfl
    | cons x xs =>
      have hx : x ∈ Region.ready .any ops listed:=by rw [hr];exact List.mem_cons_self
      obtain ⟨hl,o,hi,_⟩:=mem_ready.1 hx
      have hlt : x < ops.size:=(Array.getElem?_eq_some_iff.1 hi).1
      have:=hall x hlt
      have hxl : x < listed.size:=by rw [h.size];exact hlt
      simp [hxl] at hl this
      rw [hl] at this;cases this
  | succ fuel ih =>
    intro listed a W h hc
    refine ⟨fun hr => fin _ _ _ h (yE hok h.size hr),fun i hi => one fuel listed a W _ i h hi fun a' W' h' => ih _ _ _ h' ?_⟩
    obtain ⟨hl,o,ho,_⟩:=mem_ready.1 hi
    have hil : i < listed.size:=by rw [h.size];exact (Array.getElem?_eq_some_iff.1 ho).1
    have:=xL listed.toList i (by
      simp [hil] at hl ⊢;exact hl)
    rw [Array.toList_setIfInBounds]
    omega
theorem XW {id : Nat} (R : List Fact) (D : List (List (Nat × Nat))) (every : List (Nat × Nat)) (hm : P.follows .mixedOrders = true) (hok : partsOk ops D every a0.tmps.size = true)
    (hob : ∀ i o,ops[i]? = some o → ∀ W,Below w.heap.size w W → given R W (fun a1 => wpList P ops (PartPost a0.defers W o (factAt R i)) [o] a1 W) (D.getD i []) a0)
    (hend : ∀ W,Below w.heap.size w W → given R W (fun a => Q .normal a W) every a0) : (Code.region id ops true).wp P Q a0 w:=by
  unfold partsOk at hok
  simp only [Bool.and_eq_true] at hok
  have ok : ∀ i o,ops[i]? = some o → OpOk ops D every a0.tmps.size i o:=fun i o hi => OpOk.of (by
    have:=List.all_eq_true.1 hok.1 i (List.mem_range.2 (Array.getElem?_eq_some_iff.1 hi).1)
    rw [hi] at this
    exact this)
  have hev : ∀ p ∈ every,∃ oj,ops[p.1]? = some oj ∧ oj.dst = some p.2:=fun p hp => by
    have:=List.all_eq_true.1 hok.2 p hp
    obtain ⟨oj,h6,h7⟩:=Option.bind_eq_some_iff.1 (beq_iff_eq.1 this)
    exact ⟨oj,h6,h7⟩
  refine wp_region_any hm (parts_any ok hev hob hend ops.size _ a0 _ ⟨by simp,⟨rfl,rfl,rfl,Nat.le_refl _,fun _ _ => rfl⟩,rfl,rfl,fun j oj d hj _ hl => ?_,fun _ _ => rfl,fun j oj hj hl => ?_⟩ (by simp))
  all_goals
    exfalso
    have hlt : j < ops.size:=(Array.getElem?_eq_some_iff.1 hj).1
    simp [hlt] at hl
def obs (P : Program) (ops : Array Oper) (R : List Fact) (D : List (List (Nat × Nat))) (w : World) (a0 : Act) : Nat → List Oper → Prop
  | _,[] => True
  | i,o :: r => (∀ W,Below w.heap.size w W → given R W (fun a1 => wpList P ops (PartPost a0.defers W o (factAt R i)) [o] a1 W) (D.getD i []) a0) ∧ obs P ops R D w a0 (i + 1) r
theorem Y5 : ∀ (l : List Oper) (k : Nat),obs P ops R D w a0 k l → ∀ j o,l[j]? = some o → ∀ W,Below w.heap.size w W → given R W (fun a1 => wpList P ops (PartPost a0.defers W o (factAt R (k + j))) [o] a1 W) (D.getD (k + j) []) a0
  | [],_,_,j,o,h => by simp at h
  | x :: l,k,ho,0,o,h => by
    simp at h;subst h
    exact ho.1
  | x :: l,k,ho,j + 1,o,h => by
    have:=Y5 l (k + 1) ho.2 j o (by simpa using h)
    rw [show k + (j + 1) = k + 1 + j by omega]
    exact this
theorem qM {id : Nat} {l : List Oper} (R : List Fact) (D : List (List (Nat × Nat))) (every : List (Nat × Nat)) (hm : P.follows .mixedOrders = true) (hok : partsOk l.toArray D every a0.tmps.size = true)
    (hob : obs P l.toArray R D w a0 0 l) (hend : ∀ W,Below w.heap.size w W → given R W (fun a => Q .normal a W) every a0) : (Code.region id l.toArray true).wp P Q a0 w :=
  XW R D every hm hok (fun i o hi W hW => by
    have:=Y5 l 0 hob i o (by simpa using hi) W hW
    rw [Nat.zero_add] at this
    exact this) hend
end
def Fact.bytes (bs : List Nat) : Fact:=⟨fun v w => ∃ A cap,v = .slice A bs.length cap ∧ Row byteV w w.heap.size A bs.length bs,fun _ _ _ hb ⟨A,cap,hv,hr⟩ => ⟨A,cap,hv,(hr.below hb).more hb.size⟩⟩
def Fact.vals (us : List Value) : Fact:=⟨fun v w => ∃ A cap,v = .slice A us.length cap ∧ Row (fun u => u) w w.heap.size A us.length us,fun _ _ _ hb ⟨A,cap,hv,hr⟩ => ⟨A,cap,hv,(hr.below hb).more hb.size⟩⟩
theorem j0 {D : List Deferred} {W : World} {o : Oper} {d : Nat} {c : Value} {a : Act} (ho : o.dst = some d) (hs : a.tmps.toList[d]? = some c) (hd : a.defers = D) : PartPost D W o (Fact.is c) .normal a W:=by
  refine ⟨hd,Below.refl _ _,?_⟩
  show slotOf o a = c
  have h : a.tmps[d]? = some c:=by simpa using hs
  simp [slotOf,ho,Array.getD_eq_getD_getElem?,h]
theorem jG {D : List Deferred} {W W' : World} {o : Oper} {d : Nat} {c : Value} {R : Fact} {a : Act} (ho : o.dst = some d) (hs : a.tmps.toList[d]? = some c) (hd : a.defers = D) (hb : Below W.heap.size W W') (hr : R.holds c W') : PartPost D W o R .normal a W':=by
  refine ⟨hd,hb,?_⟩
  have h : a.tmps[d]? = some c:=by simpa using hs
  simp only [slotOf,ho,Array.getD_eq_getD_getElem?,h,Option.getD_some]
  exact hr
theorem jJ (l : List Value) (ds : List Deferred) (d : Nat) (v : Value) : Act.put ⟨l.toArray,ds⟩ (some d) v = ⟨(l.set d v).toArray,ds⟩:=by simp [Act.put]
def maskOf (acc : List Nat) (o : Oper) : Nat:=(waits o).foldl (fun m j => m ||| (2 ^ j ||| acc.getD j 0)) 0
def masks (l : List Oper) : List Nat:=l.foldl (fun acc o => acc ++ [maskOf acc o]) []
theorem masks_snoc (l : List Oper) (o : Oper) : masks (l ++ [o]) = masks l ++ [maskOf (masks l) o]:=by simp [masks]
theorem JK (l : List Oper) : (masks l).length = l.length:=by
  have h : ∀ (l : List Oper) (acc : List Nat),(l.foldl (fun acc o => acc ++ [maskOf acc o]) acc).length = acc.length + l.length:=by
    intro l
    induction l with
    | nil => intro acc;rfl
    | cons o r ih => intro acc;rw [List.foldl_cons,ih];simp;omega
  have:=h l []
  simpa [masks] using this
theorem QK (l : List Oper) (i : Nat) (o : Oper) (h : l[i]? = some o) : (masks l).getD i 0 = maskOf (masks (l.take i)) o:=by
  have hi:=(List.getElem?_eq_some_iff.1 h).1
  have e : l = l.take i ++ [o] ++ l.drop (i + 1):=by
    have h1 : l.take (i + 1) = l.take i ++ [o]:=by rw [List.take_add_one,h];rfl
    rw [← h1,List.take_append_drop]
  have hpre : ∀ (r : List Oper) (a : List Oper),(masks (a ++ r)).take a.length = masks a:=by
    intro r a
    have hx : ∀ (r : List Oper) (acc : List Nat),∃ t,r.foldl (fun acc o => acc ++ [maskOf acc o]) acc = acc ++ t:=by
      intro r
      induction r with
      | nil => intro acc;exact ⟨[],by simp⟩
      | cons x r ih =>
        intro acc
        obtain ⟨t,ht⟩:=ih (acc ++ [maskOf acc x])
        exact ⟨[maskOf acc x] ++ t,by rw [List.foldl_cons,ht,List.append_assoc]⟩
    obtain ⟨t,ht⟩:=hx r (masks a)
    have h3 : masks (a ++ r) = masks a ++ t:=by unfold masks at ht ⊢;rw [List.foldl_append];exact ht
    rw [h3,List.take_left' (JK a)]
  have hl : (l.take i).length = i:=by rw [List.length_take];omega
  have h2:=hpre (l.drop (i + 1)) (l.take i ++ [o])
  rw [← e,List.length_append,hl,masks_snoc] at h2
  have h3 : (masks l)[i]? = ((masks l).take (i + 1))[i]?:=by rw [List.getElem?_take,if_pos (by omega)]
  rw [List.getD_eq_getElem?_getD,h3]
  show (((masks l).take (i + [o].length))[i]?).getD 0 = _
  rw [h2,List.getElem?_append_right (by rw [JK,hl];exact Nat.le_refl _),JK,hl,Nat.sub_self]
  rfl
theorem fold_or (f : Nat → Nat) (j : Nat) : ∀ (l : List Nat) (m : Nat),(l.foldl (fun m k => m ||| f k) m).testBit j = true → m.testBit j = true ∨ ∃ k ∈ l,(f k).testBit j = true
  | [],m,h => .inl h
  | k :: l,m,h => by
    rcases fold_or f j l _ h with h | ⟨k',hk,h⟩
    · rw [Nat.testBit_or,Bool.or_eq_true] at h
      rcases h with h | h
      · exact .inl h
      · exact .inr ⟨k,List.mem_cons_self,h⟩
    · exact .inr ⟨k',List.mem_cons_of_mem _ hk,h⟩
theorem qN {l : List Oper} {listed : Array Bool} (hback : ∀ i o,l[i]? = some o → ∀ e ∈ o.after,Region.binds .any e = true → e.on < i)
    (hshut : ∀ j oj,l[j]? = some oj → listed.getD j false = true → ∀ e ∈ oj.after,Region.binds .any e = true → listed.getD e.on false = true) :
    ∀ i o,l[i]? = some o → (∀ e ∈ o.after,Region.binds .any e = true → listed.getD e.on false = true) → ∀ j,((masks l).getD i 0).testBit j = true → listed.getD j false = true:=by
  intro i
  induction i using Nat.strongRecOn with
  | _ i ih =>
    intro o ho hw j hj
    rw [QK l i o ho] at hj
    rcases fold_or _ j _ _ hj with h | ⟨k,hk,h⟩
    · simp at h
    · obtain ⟨e,he,hb,hon⟩:=vM.1 hk
      have hkl : listed.getD k false = true:=by rw [← hon];exact hw e he hb
      have hki : k < i:=by rw [← hon];exact hback i o ho e he hb
      rw [Nat.testBit_or,Bool.or_eq_true] at h
      rcases h with h | h
      · rw [Nat.testBit_two_pow] at h
        have : k = j:=by simpa using h
        rw [← this];exact hkl
      · have hil:=(List.getElem?_eq_some_iff.1 ho).1
        have hk2 : l[k]? = some (l[k]'(by omega)):=List.getElem?_eq_getElem (by omega)
        have hkt : (l.take i)[k]? = some (l[k]'(by omega)):=by rw [List.getElem?_take,if_pos hki];exact hk2
        have h' : ((masks l).getD k 0).testBit j = true:=by
          rw [QK l k _ hk2]
          rw [QK (l.take i) k _ hkt,List.take_take,Nat.min_eq_left (by omega)] at h
          exact h
        exact ih k hki _ hk2 (hshut k _ hk2 hkl) j h'
def tailOk (l : List Oper) (n : Nat) : Bool:=(List.range l.length).all fun i => decide (i < n) || (masks l).getD i 0 == 2 ^ i - 1
section
variable {P : Program} {Q : Exit → Act → World → Prop} {a0 : Act} {w : World} {R : List Fact} {D : List (List (Nat × Nat))} {every : List (Nat × Nat)} {l : List Oper} {n : Nat}
theorem forced (hback : ∀ i o,l[i]? = some o → ∀ e ∈ o.after,Region.binds .any e = true → e.on < i) (ht : tailOk l n = true) :
    ∀ (fuel m : Nat) (listed : Array Bool) (a : Act) (W : World),n ≤ m → l.length ≤ m + fuel → listed.size = l.length → (∀ j,j < m → listed.getD j false = true) → (∀ j,m ≤ j → j < l.length → listed.getD j true = false) →
      wpList P l.toArray Q (l.drop m) a W → wpAny P .any l.toArray Q fuel listed a W:=by
  intro fuel
  induction fuel with
  | zero =>
    intro m listed a W hn hm hs h1 h2 h
    rw [List.drop_of_length_le (by omega)] at h
    refine ⟨?_,h⟩
    cases hr : Region.ready .any l.toArray listed with
    | nil => rfl
    | cons x xs =>
      have hx : x ∈ Region.ready .any l.toArray listed:=by rw [hr];exact List.mem_cons_self
      obtain ⟨hl,o,hi,_⟩:=mem_ready.1 hx
      have hlt : x < l.length:=by
        have:=(Array.getElem?_eq_some_iff.1 hi).1
        simpa using this
      have h3:=h1 x (by omega)
      have hxl : x < listed.size:=by omega
      simp [hxl] at hl h3
      rw [hl] at h3;cases h3
  | succ fuel ih =>
    intro m listed a W hn hm hs h1 h2 h
    rcases Nat.lt_or_ge m l.length with hml | hml
    rotate_left
    · rw [List.drop_of_length_le hml] at h
      refine ⟨fun _ => h,fun i hi => ?_⟩
      exfalso
      obtain ⟨hl,o,hio,_⟩:=mem_ready.1 hi
      have hlt : i < l.length:=by
        have:=(Array.getElem?_eq_some_iff.1 hio).1
        simpa using this
      have h3:=h1 i (by omega)
      have hxl : i < listed.size:=by omega
      simp [hxl] at hl h3
      rw [hl] at h3;cases h3
    have hmo : l[m]? = some l[m]:=List.getElem?_eq_getElem hml
    have hmr : m ∈ Region.ready .any l.toArray listed:=mem_ready.2 ⟨h2 m (Nat.le_refl _) hml,l[m],by simp,fun e he hb => h1 _ (hback m _ hmo e he hb)⟩
    refine ⟨fun hr => (by rw [hr] at hmr;cases hmr),fun i hi => ?_⟩
    obtain ⟨hil,o,hio,hall⟩:=mem_ready.1 hi
    have hio' : l[i]? = some o:=by simpa using hio
    have hilt:=(List.getElem?_eq_some_iff.1 hio').1
    have him : m ≤ i:=by
      rcases Nat.lt_or_ge i m with hlt | hge
      · have h3:=h1 i hlt
        have hxl : i < listed.size:=by omega
        simp [hxl] at hil h3
        rw [hil] at h3;cases h3
      · exact hge
    have hshut : ∀ j oj,l[j]? = some oj → listed.getD j false = true → ∀ e ∈ oj.after,Region.binds .any e = true → listed.getD e.on false = true:=by
      intro j oj hj hlj e he hb
      have hjl:=(List.getElem?_eq_some_iff.1 hj).1
      have hjm : j < m:=by
        rcases Nat.lt_or_ge j m with hlt | hge
        · exact hlt
        · have h3:=h2 j hge hjl
          have hxl : j < listed.size:=by omega
          simp [hxl] at h3 hlj
          rw [h3] at hlj;cases hlj
      exact h1 _ (Nat.lt_trans (hback j oj hj e he hb) hjm)
    have hie : i = m:=by
      rcases Nat.lt_or_ge m i with hlt | hge
      · exfalso
        have ht1:=List.all_eq_true.1 ht i (List.mem_range.2 hilt)
        have ht2 : (masks l).getD i 0 = 2 ^ i - 1:=by
          simp only [Bool.or_eq_true,decide_eq_true_eq,beq_iff_eq] at ht1
          rcases ht1 with h | h
          · omega
          · exact h
        have h3:=qN hback hshut i o hio' hall m (by rw [ht2,Nat.testBit_two_pow_sub_one];simpa using hlt)
        have h4:=h2 m (Nat.le_refl _) hml
        have hxl : m < listed.size:=by omega
        simp [hxl] at h3 h4
        rw [h4] at h3;cases h3
      · omega
    subst hie
    have hoo : o = l[i]:=by rw [hmo] at hio';cases hio';rfl
    subst hoo
    rw [List.drop_eq_getElem_cons hml] at h
    have hK : ∀ a' W',wpList P l.toArray Q (l.drop (i + 1)) a' W' → wpAny P .any l.toArray Q fuel (listed.setIfInBounds i true) a' W':=fun a' W' h' =>
      ih (i + 1) _ a' W' (by omega) (by omega) (by simpa using hs) (fun j hj => by
        by_cases hji : j = i
        · subst hji
          have : j < listed.size:=by omega
          simp [this]
        · exact getD_set_true (h1 j (by omega))) (fun j hj hjl => by rw [getD_set_ne true (by omega)];exact h2 j (by omega) hjl) h'
    unfold wpOp
    rw [hio]
    simp only
    unfold wpList at h
    split
    · rename_i hw
      rw [if_pos hw] at h
      exact h.imp (Oper.wp_mono hK) id
    · rename_i hw
      rw [if_neg hw] at h
      exact hK _ _ h
theorem parts_tail {E : List (Nat × Nat)} (hok : ∀ i o,l.toArray[i]? = some o → OpOk l.toArray D E a0.tmps.size i o) (hev : ∀ p ∈ every,p.1 < n ∧ ∃ oj,l[p.1]? = some oj ∧ oj.dst = some p.2) (ht : tailOk l n = true) (hn : n ≤ l.length)
    (hob : ∀ i o,i < n → l.toArray[i]? = some o → ∀ W,Below w.heap.size w W → given R W (fun a1 => wpList P l.toArray (PartPost a0.defers W o (factAt R i)) [o] a1 W) (D.getD i []) a0)
    (hmem : ∀ i o d,i < n → l[i]? = some o → o.dst = some d → (i,d) ∈ every)
    (hend : ∀ W,Below w.heap.size w W → given R W (fun a => wpList P l.toArray Q (l.drop n) a W) every a0) :
    ∀ (fuel : Nat) (listed : Array Bool) (a : Act) (W : World),PInv l.toArray R a0 w listed a W → (∀ j,n ≤ j → j < l.length → listed.getD j true = false) → (listed.toList.take n).count false + (l.length - n) ≤ fuel → wpAny P .any l.toArray Q fuel listed a W:=by
  have hback : ∀ i o,l[i]? = some o → ∀ e ∈ o.after,Region.binds .any e = true → e.on < i:=fun i o hi => (hok i o (by simpa using hi)).back
  have switch : ∀ (fuel : Nat) (listed : Array Bool) (a : Act) (W : World),PInv l.toArray R a0 w listed a W → (∀ j,n ≤ j → j < l.length → listed.getD j true = false) → (∀ j,j < n → listed.getD j false = true) → l.length - n ≤ fuel → wpAny P .any l.toArray Q fuel listed a W:=by
    intro fuel listed a W h h2 h1 hf
    have hs : listed.size = l.length:=by have:=h.size;simpa using this
    refine forced hback ht fuel n listed a W (Nat.le_refl _) (by omega) hs h1 h2 ?_
    have h3:=yB (a:=a) every a0 (hend W h.ext) fun p hp => by
      obtain ⟨hpn,oj,hj,hd⟩:=hev p hp
      exact h.got p.1 oj p.2 (by simpa using hj) hd (h1 p.1 hpn)
    have e1 : fill a every a0 = a:=by
      have e2 : (fill a every a0).tmps = a.tmps:=by
        apply Array.ext_getElem?
        intro t
        rw [xU]
        by_cases hc : t ∈ every.map (·.2) ∧ t < a0.tmps.size
        · rw [if_pos hc,yK a t (by rw [h.tsz];exact hc.2)]
        · rw [if_neg hc]
          by_cases hts : t < a0.tmps.size
          · refine (h.old t fun j oj hj hd => ?_).symm
            have hj' : l[j]? = some oj:=by simpa using hj
            rcases Nat.lt_or_ge j n with hjn | hjn
            · exact absurd ⟨List.mem_map.2 ⟨(j,t),hmem j oj t hjn hj' hd,rfl⟩,hts⟩ hc
            · have hjl:=(List.getElem?_eq_some_iff.1 hj').1
              have h4:=h2 j hjn hjl
              have hxl : j < listed.size:=by omega
              simp [hxl] at h4 ⊢;exact h4
          · rw [Array.getElem?_eq_none (by omega),Array.getElem?_eq_none (by rw [h.tsz];omega)]
      have e3:=(xI a every a0).trans h.defs.symm
      cases hf : fill a every a0
      cases a
      rw [hf] at e2 e3
      simp only at e2 e3
      rw [e2,e3]
    rw [e1] at h3
    exact h3
  intro fuel
  induction fuel with
  | zero =>
    intro listed a W h h2 hc
    refine switch 0 listed a W h h2 (fun j hj => ?_) (by omega)
    have hs : listed.size = l.length:=by have:=h.size;simpa using this
    have hn0 : false ∉ listed.toList.take n:=List.count_eq_zero.1 (by omega)
    have hjl : j < listed.size:=by omega
    cases hb : listed[j]
    · refine absurd ?_ hn0
      have : (listed.toList.take n)[j]? = some false:=by rw [List.getElem?_take,if_pos hj];simp [hjl,hb]
      exact List.mem_of_getElem? this
    · simp [hjl,hb]
  | succ fuel ih =>
    intro listed a W h h2 hc
    have hs : listed.size = l.length:=by have:=h.size;simpa using this
    by_cases hall : ∀ j,j < n → listed.getD j false = true
    · exact switch _ listed a W h h2 hall (by omega)
    · refine ⟨fun hr => ?_,fun i hi => ?_⟩
      · exact absurd (fun j hj => yE hok h.size hr j (by simp;omega)) hall
      · obtain ⟨hl,o,hio,hw⟩:=mem_ready.1 hi
        have hio' : l[i]? = some o:=by simpa using hio
        have hil:=(List.getElem?_eq_some_iff.1 hio').1
        have hin : i < n:=by
          rcases Nat.lt_or_ge i n with hlt | hge
          · exact hlt
          · exfalso
            refine hall fun j hj => ?_
            have ht1:=List.all_eq_true.1 ht i (List.mem_range.2 hil)
            have ht2 : (masks l).getD i 0 = 2 ^ i - 1:=by
              simp only [Bool.or_eq_true,decide_eq_true_eq,beq_iff_eq] at ht1
              rcases ht1 with h | h
              · omega
              · exact h
            exact qN hback (fun j oj hj => h.shut j oj (by simpa using hj)) i o hio' hw j (by rw [ht2,Nat.testBit_two_pow_sub_one];simpa using (by omega : j < i))
        refine QC hio (hok i o hio) (hob i o hin hio) h hi fun a' W' h' => ih _ _ _ h' (fun j hj hjl => by rw [getD_set_ne true (by omega)];exact h2 j hj hjl) ?_
        have hixl : i < listed.size:=by omega
        have:=xL (listed.toList.take n) i (by
          rw [List.getElem?_take,if_pos hin]
          simp [hixl] at hl ⊢;exact hl)
        rw [Array.toList_setIfInBounds,List.take_set]
        omega
theorem jH {id : Nat} (n : Nat) (R : List Fact) (D : List (List (Nat × Nat))) (every : List (Nat × Nat)) (hm : P.follows .mixedOrders = true) (hok : partsOk l.toArray D (every ++ ((List.range l.length).filterMap fun i => if n ≤ i then ((l[i]?).bind (·.dst)).map fun d => (i,d) else none)) a0.tmps.size = true)
    (ht : tailOk l n = true) (hn : decide (n ≤ l.length) = true) (hev : every.all (fun p => decide (p.1 < n)) = true)
    (hob : obs P l.toArray R D w a0 0 (l.take n)) (hend : ∀ W,Below w.heap.size w W → given R W (fun a => wpList P l.toArray Q (l.drop n) a W) every a0) : (Code.region id l.toArray true).wp P Q a0 w:=by
  unfold partsOk at hok
  simp only [Bool.and_eq_true] at hok
  generalize hE : every ++ ((List.range l.length).filterMap fun i => if n ≤ i then ((l[i]?).bind (·.dst)).map fun d => (i,d) else none) = E at hok
  have hn' : n ≤ l.length:=by simpa using hn
  have ok : ∀ i o,l.toArray[i]? = some o → OpOk l.toArray D E a0.tmps.size i o:=fun i o hi => OpOk.of (by
    have:=List.all_eq_true.1 hok.1 i (List.mem_range.2 (Array.getElem?_eq_some_iff.1 hi).1)
    rw [hi] at this
    exact this)
  have hmem : ∀ i o d,i < n → l[i]? = some o → o.dst = some d → (i,d) ∈ every:=fun i o d hin hio hd => by
    have h1:=((ok i o (by simpa using hio)).dst d hd).2.1
    rw [← hE,List.mem_append] at h1
    rcases h1 with h1 | h1
    · exact h1
    · exfalso
      obtain ⟨k,hk,hkk⟩:=List.mem_filterMap.1 h1
      split at hkk
      · obtain ⟨d',_,hdd⟩:=Option.map_eq_some_iff.1 hkk
        cases hdd;omega
      · cases hkk
  have hev' : ∀ p ∈ every,p.1 < n ∧ ∃ oj,l[p.1]? = some oj ∧ oj.dst = some p.2:=fun p hp => by
    have h1:=List.all_eq_true.1 hok.2 p (by rw [← hE];exact List.mem_append_left _ hp)
    obtain ⟨oj,h6,h7⟩:=Option.bind_eq_some_iff.1 (beq_iff_eq.1 h1)
    have h2:=List.all_eq_true.1 hev p hp
    exact ⟨by simpa using h2,oj,by simpa using h6,h7⟩
  refine wp_region_any hm (parts_tail (every:=every) (D:=D) (R:=R) (n:=n) ok hev' ht hn' (fun i o hin hio W hW => ?_) hmem hend _ _ a0 _ ⟨by simp,⟨rfl,rfl,rfl,Nat.le_refl _,fun _ _ => rfl⟩,rfl,rfl,fun j oj d hj _ hl => ?_,fun _ _ => rfl,fun j oj hj hl => ?_⟩ (fun j _ hjl => by simp [hjl]) ?_)
  · have h1:=Y5 (l.take n) 0 hob i o (by rw [List.getElem?_take,if_pos hin];simpa using hio) W hW
    rw [Nat.zero_add] at h1
    exact h1
  · exfalso
    have hlt : j < l.length:=by have:=(Array.getElem?_eq_some_iff.1 hj).1;simpa using this
    simp [hlt] at hl
  · exfalso
    have hlt : j < l.length:=by have:=(Array.getElem?_eq_some_iff.1 hj).1;simpa using this
    simp [hlt] at hl
  · simp;omega
end
end Go.Proofs.Ytcbfghcdbmlneaa
