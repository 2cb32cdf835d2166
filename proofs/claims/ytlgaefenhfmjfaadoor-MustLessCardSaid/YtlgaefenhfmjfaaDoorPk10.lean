/- MustLaw1, SetP3, SetLaw1, SetLaid. -/
import Derived.Test.YtlgaefenhfmjfaaDoorPk4
import Derived.Test.YtlgaefenhfmjfaaDoorMustP5
import Derived.Test.YtlgaefenhfmjfaaDoorPk6
import Derived.Test.YtlgaefenhfmjfaaDoorPk8
import Derived.BigQuiet
import Derived.Deep.QuietTactic
import Derived.Test.YtlgaefenhfmjfaaDoorRows
import Derived.Test.YtlgaefenhfmjfaaDoorPk1
import Derived.Deep.DeepHandedRow
import Derived.Lib.LaidTab
namespace Go.Proofs.YtlgaefenhfmjfaaDoor
open Go.RowKit
def pgS (g : Nat) : Pg:=⟨0,1,0,some ⟨g + 1,0,none⟩,1,1,[⟨some ⟨g,0,none⟩,1,1,[⟨9,0,0,0⟩]⟩]⟩
def scS (g : Nat) : Sc:=⟨0,0,⟨some ⟨g + 2,0,none⟩,1,1,[1]⟩,0,0,⟨some ⟨g + 3,0,none⟩,1,1,[0]⟩⟩
def pgSW (w : World) : World:=((((w.alloc (.cells #[.int .i64 9,.int .i64 0,.int .i64 0,.int .i64 0] 63)).alloc (.cells #[.slice (some ⟨w.heap.size,0,none⟩) 1 1] 60)).alloc (.cells #[.int .u32 1] 51)).alloc (.cells #[.int .u32 0] 51)).alloc
  (.cells #[.int .u32 0,.int .u32 0,.slice (some ⟨w.heap.size + 2,0,none⟩) 1 1,.int .u32 0,.int .u32 0,.slice (some ⟨w.heap.size + 3,0,none⟩) 1 1] 54)
theorem QB (w : World) {B : Nat} {w0 : World} (h : Below B w0 w) (hB : B ≤ w.heap.size) : Below B w0 (pgSW w):=((((h.alloc hB _).alloc (by simp;omega) _).alloc (by simp;omega) _).alloc (by simp;omega) _).alloc (by simp;omega) _
theorem QT {w : World} {g : Nat} {t : TypeId} {l : List Nat} (h : Blk w g t (l.map wordV)) (hl : ∀ x ∈ l,x < 4294967296) (n : Nat) (hn : l.length = n) (hm : n ≤ 1000) : (⟨some ⟨g,0,none⟩,n,n,l⟩ : Ws).Ok w w.heap.size :=
  ⟨Blk.row h hn (Nat.le_refl _),hl,Nat.le_refl _,by unfold maxLen;show n ≤ 2 ^ 63 - 1;omega⟩
theorem JM {w : World} {g B : Nat} {t : TypeId} {x : Sc} (h : Blk w g t (scC x)) (hx : x.Ok w B) (hB : w.heap.size ≤ B) : Secs w B (some ⟨g,0,none⟩) 1 [x]:=by
  refine ⟨⟨rfl,fun _ => ⟨_,rfl,Nat.lt_of_lt_of_le h.lt hB,fun k y hy j hj => ?_⟩⟩,fun y hy => by rw [List.mem_singleton.1 hy];exact hx⟩
  have hk : k = 0:=by have:=(List.getElem?_eq_some_iff.1 hy).1;simp at this;omega
  subst hk
  simp at hy
  subst hy
  have hadd : (⟨g,0,none⟩ : Addr).add (0 * 6 + j) = ⟨g,j,none⟩:=by rw [Nat.zero_mul,Nat.zero_add,lI]
  rw [hadd,h.cell]
  match j,hj with
  | 0,_ => rfl
  | 1,_ => rfl
  | 2,_ => rfl
  | 3,_ => rfl
  | 4,_ => rfl
  | 5,_ => rfl
theorem pgS_ok (w : World) : (pgS w.heap.size).Ok (pgSW w) (pgSW w).heap.size:=by
  have h0 : Blk (pgSW w) w.heap.size 63 (([⟨9,0,0,0⟩] : List Nd).flatMap ndC):=((((Blk.newA w 63 _ (([⟨9,0,0,0⟩] : List Nd).flatMap ndC) rfl).alloc _).alloc _).alloc _).alloc _
  have h2 : Blk (pgSW w) (w.heap.size + 1) 60 ((pgS w.heap.size).fns.map fnV):=(((Blk.newAt rfl (by simp)).alloc _).alloc _).alloc _
  refine ⟨by unfold I64;simp [pgS],by unfold I64;simp [pgS],by unfold I64;simp [pgS],?_,?_,Nat.le_refl _,by simp [pgS,maxLen],fun h => by cases h⟩
  · exact Blk.row (f:=fnV) (l:=(pgS w.heap.size).fns) h2 rfl (Nat.le_refl _)
  · intro f hf
    simp only [pgS,List.mem_cons,List.not_mem_nil,or_false] at hf
    subst hf
    exact fn_tiny h0 (by decide) 1 rfl (by omega)
theorem scS_ok (w : World) : Secs (pgSW w) (pgSW w).heap.size (some ⟨w.heap.size + 4,0,none⟩) 1 [scS w.heap.size]:=by
  have h2 : Blk (pgSW w) (w.heap.size + 2) 51 ([1].map wordV):=((Blk.newAt rfl (by simp)).alloc _).alloc _
  have h3 : Blk (pgSW w) (w.heap.size + 3) 51 ([0].map wordV):=(Blk.newAt rfl (by simp)).alloc _
  have h4 : Blk (pgSW w) (w.heap.size + 4) 54 (scC (scS w.heap.size)):=Blk.newAt rfl (by simp)
  refine JM h4 ⟨by simp [scS],by simp [scS],?_,by simp [scS],by simp [scS],?_⟩ (Nat.le_refl _)
  · exact QT h2 (by simp) 1 rfl (by omega)
  · exact QT h3 (by simp) 1 rfl (by omega)
theorem XO (g : Nat) : Q.small (pgS g) = true:=by simp [Q.small,pgS]
theorem XP (g : Nat) : Q.check (pgS g) = (0,0,0):=by
  refine check_up (by constructor <;> simp [pgS]) (fun fn hfn => ?_) (YH (by simp [pgS,callsUp]))
  simp only [pgS,List.mem_cons,List.not_mem_nil,or_false] at hfn
  subst hfn
  exact ⟨by simp,by simp,by show (([⟨9,0,0,0⟩] : List Nd).all fun nd => Q.may 0 1 0 1 nd 1) = true;decide⟩
theorem pgS_kill (g : Nat) : killA (pgS g) 4 4 0 = [0]:=by
  rw [xL]
  symm
  refine L5 rfl fun f m hm => ?_
  have hlt:=(List.getElem?_eq_some_iff.1 hm).1
  have h0 : f = 0:=by simp at hlt;omega
  subst h0
  have h1 : m = 0:=by simp at hm;omega
  subst h1
  refine qC.congr fun id _ => ⟨fun h => h.elim,?_⟩
  rintro ⟨y,fn,_,hfn,x,hx,hk,_⟩
  have hmem:=List.mem_of_getElem? hfn
  simp only [pgS,List.mem_cons,List.not_mem_nil,or_false] at hmem
  subst hmem
  rw [List.mem_singleton.1 hx] at hk
  simp at hk
theorem pgS_ans (g : Nat) : Mu.ans (pgS g) [0] [scS g] 0 = (0,-1,3):=by kernel_rfl
set_option maxRecDepth 100000 in
set_option maxHeartbeats 1600000 in
theorem jQ (w : World) (ht : Tab w) : Calls Tryd.prog 7 #[] w fun e w' => e = .returned (.bool true) ∧ Below w.heap.size w w':=by
  have hw1:=ht.size
  have HW0:=kp (QB w (Below.refl _ _) (Nat.le_refl _))
  have hs0:=HW0.out.size
  have HT:=kp (Tab.below ht HW0.out hw1)
  clear ht
  go_enter Tryd.func7,Tryd.ntmps7
  go_wp2_with fail
  refine (x6 _ (pgS w.heap.size) (pgSW w) (pgS_ok w) (Nat.le_refl _) (XO _) HT.out 0 0 0 (XP _) [0] (pgS_kill _) (some ⟨w.heap.size + 4,0,none⟩) 1 1 [scS w.heap.size] (scS_ok w) (Nat.le_refl _) (by simp [maxLen]) (0,-1,3) (pgS_ans _)).mono ?_
  rintro e w1 ⟨rfl,hb1⟩
  have HB1:=kp (HW0.out.trans (hb1.mono hs0))
  have hs1:=HB1.out.size
  clear hb1
  go_wp2_with (first
    | ((with_reducible show Sl 1);go_must (refine j7 rfl 30 rfl (ftC 0 0 0) xW ?_);intro gF w2 hgF hk2 hb2;have HGF:=kp hgF;have HF2:=kp hk2;have HB2:=kp (HB1.out.trans (hb2.mono hs1));have hs2:=HB2.out.size;clear hgF hk2 hb2)
    | ((with_reducible show Sn);go_must (refine j5 rfl 30 (.tmp 1) (.tmp 13) rfl gF (ftC 0 (-1) 3) rfl rfl _ _ HF2.out jM rfl (jZ _ _ _) ?_);intro w3 hk3 hg3 hz3
       have HB3:=kp (HB2.out.grown hg3 hs2 (fun k e => by cases e;have:=HGF.out;omega));obtain ⟨hf0,hf1,hf2⟩:=qS hk3;clear hk3 hg3 hz3))
  go_ret
  exact ⟨rfl,HB3.out⟩
theorem gTab : Tryd.prog.globalNamed "math/bits.deBruijn32tab" = some 0:=by kernel_rfl
theorem gTabT : (Tryd.prog.globals[0]?).map (·.type) = some 145:=by kernel_rfl
theorem cellsTab : Tryd.prog.cellsOf 145 = 32:=by kernel_rfl
theorem Y8 : Tryd.prog.cellsOf 5 = 1:=by kernel_rfl
theorem laid_is : (Rows.laid_math_bits_deBruijn32tab : DataW Unit) = Lib.tabData .u8 (bruijn.map fun n : Nat => (n : Int)):=by kernel_rfl
theorem vW {W : World} (h : laidMetH Tryd.prog [("math/bits.deBruijn32tab",Rows.laid_math_bits_deBruijn32tab)] W) : Tab W:=by
  have h2 : laidMet Tryd.prog [("math/bits.deBruijn32tab",Rows.laid_math_bits_deBruijn32tab)] W:=h
  rw [laid_is] at h2
  have ht:=Lib.tabIs_of_head (rest:=[]) gTab gTabT Tryd.underlying145 Tryd.underlying5 Y8 cellsTab h2
  refine ⟨rfl,fun _ => ⟨_,rfl,by decide,fun k hk => ?_⟩⟩
  have hadd:=lI 0 k
  have hkl : k < bruijn.length:=hk
  rw [hadd,ht.cell gTab k (by rw [List.length_map];exact hkl),List.getElem?_eq_getElem hkl,List.getD_eq_getElem?_getD,List.getElem?_map,List.getElem?_eq_getElem hkl]
  rfl
noncomputable def laidWorld (os : Os) : World :=
  { World.holding Tryd.prog os ⟨#[],#[],[]⟩ with heap:=(World.holding Tryd.prog os ⟨#[],#[],[]⟩).heap.modify 0 fun
      | .cells _ t frozen => .cells (bruijn.map byteV).toArray t frozen
      | o => o }
end Go.Proofs.YtlgaefenhfmjfaaDoor
