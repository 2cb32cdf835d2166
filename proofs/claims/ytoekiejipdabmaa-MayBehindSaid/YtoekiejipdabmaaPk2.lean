/- MayLaw1, MustIn, MayP6, SecKit, Want. -/
import Derived.Test.YtoekiejipdabmaaMayP1
import Derived.Test.YtoekiejipdabmaaPk1
import Derived.BigFrame
namespace Go.Proofs.Ytoekiejipdabmaa
open Go.RowKit
theorem l6 : Ma.behind ⟨5,0,0,1⟩ 0 0 2 false = 2:=by kernel_rfl
set_option maxRecDepth 100000 in
set_option maxHeartbeats 1600000 in
theorem jW (w : World) : Calls Try.prog 4 #[] w fun e w' => e = .returned (.bool true) ∧ Below w.heap.size w w':=by
  have hi : I64 0:=by unfold I64;omega
  have h1 : I64 1:=by unfold I64;omega
  have h2 : I64 2:=by unfold I64;omega
  have h5 : I64 5:=by unfold I64;omega
  have HN : Kept ((⟨5,0,0,1⟩ : Nd).Ok):=kp ⟨h5,hi,hi,h1⟩
  have HL:=kp h2
  clear hi h1 h2 h5
  go_enter Try.func4,Try.ntmps4
  go_wp2_with fail
  refine (j8 ⟨5,0,0,1⟩ HN.out 0 0 (by omega) 2 HL.out false 2 l6 w).mono ?_
  rintro e w1 ⟨rfl,hb1⟩
  have HB1:=kp hb1
  have hs1:=hb1.size
  clear hb1
  go_wp2_with fail
  refine (l2 ⟨0,0,2,none,0,0,[]⟩ w1).mono ?_
  rintro e w2 ⟨rfl,hb2⟩
  have HB2:=kp (HB1.out.trans (hb2.mono hs1))
  clear hb2
  go_wp2
  go_ret
  exact ⟨rfl,HB2.out⟩
end Go.Proofs.Ytoekiejipdabmaa
namespace Go.Proofs.Ytoekiejipdabmaa
open Go.ChangeShapes Go.WideShapes Go.RowKit Go.Deep
structure Ws where
  A : Option Addr
  len : Nat
  cap : Nat
  z : List Nat
instance : Inhabited Ws:=⟨⟨none,0,0,[]⟩⟩
def Ws.v (x : Ws) : Value:=.slice x.A x.len x.cap
structure Ws.Ok (x : Ws) (w : World) (B : Nat) : Prop where
  row : Row wordV w B x.A x.len x.z
  u32 : ∀ y ∈ x.z,y < 4294967296
  lc : x.len ≤ x.cap
  cm : x.cap ≤ maxLen
theorem Ws.Ok.keep {x : Ws} {w w' : World} {B : Nat} (h : x.Ok w B) (hk : ∀ p : Addr,p.block < B → w'.cell? p = w.cell? p) : x.Ok w' B:=⟨h.row.keep hk,h.u32,h.lc,h.cm⟩
theorem Ws.Ok.more {x : Ws} {w : World} {B B2 : Nat} (h : x.Ok w B) (hB : B ≤ B2) : x.Ok w B2:=⟨h.row.more hB,h.u32,h.lc,h.cm⟩
theorem Ws.Ok.getD {x : Ws} {w : World} {B : Nat} (h : x.Ok w B) (k : Nat) : x.z.getD k 0 < 4294967296:=by
  rw [List.getD_eq_getElem?_getD]
  cases e : x.z[k]? with
  | none => exact (by decide : 0 < 4294967296)
  | some y => exact h.u32 y (List.mem_of_getElem? e)
theorem Ws.Ok.get {x : Ws} {w : World} {B : Nat} (h : x.Ok w B) {k : Nat} (hk : k < x.len) : ∃ ad,x.A = some ad ∧ ad.block < B ∧ x.z[k]? = some (x.z.getD k 0) ∧ x.z.getD k 0 < 4294967296 ∧ w.cell? (ad.add k) = some (.int .u32 ((x.z.getD k 0 : Nat) : Int)):=by
  obtain ⟨ad,y,e,hb,hy,hc⟩:=h.row.get hk
  have e2 : x.z.getD k 0 = y:=by rw [List.getD_eq_getElem?_getD,hy];rfl
  rw [e2]
  exact ⟨ad,e,hb,hy,h.u32 y (List.mem_of_getElem? hy),hc⟩
structure Sc where
  en : Nat
  ex : Nat
  held : Ws
  le : Nat
  lx : Nat
  live : Ws
instance : Inhabited Sc:=⟨⟨0,0,default,0,0,default⟩⟩
def scV (x : Sc) : Nat → Value
  | 0 => .int .u32 (x.en : Int)
  | 1 => .int .u32 (x.ex : Int)
  | 2 => .slice x.held.A x.held.len x.held.cap
  | 3 => .int .u32 (x.le : Int)
  | 4 => .int .u32 (x.lx : Int)
  | _ => .slice x.live.A x.live.len x.live.cap
def scC (x : Sc) : List Value:=[.int .u32 (x.en : Int),.int .u32 (x.ex : Int),.slice x.held.A x.held.len x.held.cap,.int .u32 (x.le : Int),.int .u32 (x.lx : Int),.slice x.live.A x.live.len x.live.cap]
def scA (x : Sc) : Value:=.agg #[.int .u32 (x.en : Int),.int .u32 (x.ex : Int),.slice x.held.A x.held.len x.held.cap,.int .u32 (x.le : Int),.int .u32 (x.lx : Int),.slice x.live.A x.live.len x.live.cap]
theorem l7 (x : Sc) : scA x = .agg (scC x).toArray:=rfl
structure Sc.Ok (x : Sc) (w : World) (B : Nat) : Prop where
  en : x.en < 4294967296
  ex : x.ex < 4294967296
  held : x.held.Ok w B
  le : x.le < 4294967296
  lx : x.lx < 4294967296
  live : x.live.Ok w B
theorem Sc.Ok.keep {x : Sc} {w w' : World} {B : Nat} (h : x.Ok w B) (hk : ∀ p : Addr,p.block < B → w'.cell? p = w.cell? p) : x.Ok w' B:=⟨h.en,h.ex,h.held.keep hk,h.le,h.lx,h.live.keep hk⟩
theorem Sc.Ok.more {x : Sc} {w : World} {B B2 : Nat} (h : x.Ok w B) (hB : B ≤ B2) : x.Ok w B2:=⟨h.en,h.ex,h.held.more hB,h.le,h.lx,h.live.more hB⟩
theorem Sc.Ok.below {x : Sc} {w w' : World} {B : Nat} (h : x.Ok w B) (hb : Below B w w') : x.Ok w' B:=h.keep fun _ hp => hb.cell hp
theorem Ws.Ok.below {x : Ws} {w w' : World} {B : Nat} (h : x.Ok w B) (hb : Below B w w') : x.Ok w' B:=h.keep fun _ hp => hb.cell hp
theorem jG (x : Sc) : ∀ u ∈ scC x,u.oneCell' = true:=by
  intro u hu
  simp only [scC,List.mem_cons,List.not_mem_nil,or_false] at hu
  rcases hu with h | h | h | h | h | h <;> subst h <;> rfl
theorem j7 : (Try.prog.info? 30).map (·.size) = some 6:=by kernel_rfl
def Secs (w : World) (B : Nat) (A : Option Addr) (n : Nat) (l : List Sc) : Prop:=Recs 6 scV w B A n l ∧ ∀ x ∈ l,x.Ok w B
theorem Secs.keep {w w' : World} {B : Nat} {A : Option Addr} {n : Nat} {l : List Sc} (h : Secs w B A n l) (hk : ∀ p : Addr,p.block < B → w'.cell? p = w.cell? p) : Secs w' B A n l:=⟨h.1.keep hk,fun x hx => (h.2 x hx).keep hk⟩
theorem Secs.below {w w' : World} {B : Nat} {A : Option Addr} {n : Nat} {l : List Sc} (h : Secs w B A n l) (hb : Below B w w') : Secs w' B A n l:=h.keep fun _ hp => hb.cell hp
theorem Secs.more {w : World} {B B2 : Nat} {A : Option Addr} {n : Nat} {l : List Sc} (h : Secs w B A n l) (hB : B ≤ B2) : Secs w B2 A n l:=⟨h.1.more hB,fun x hx => (h.2 x hx).more hB⟩
theorem Secs.get {w : World} {B : Nat} {A : Option Addr} {n : Nat} {l : List Sc} (h : Secs w B A n l) {k : Nat} (hk : k < n) :
    ∃ ad x,A = some ad ∧ ad.block < B ∧ l[k]? = some x ∧ x.Ok w B ∧ w.cell? (ad.add (k * 6)) = some (.int .u32 (x.en : Int)) ∧ w.cell? ⟨(ad.add (k * 6)).block,(ad.add (k * 6)).off + 1,none⟩ = some (.int .u32 (x.ex : Int)) ∧
      w.cell? ⟨(ad.add (k * 6)).block,(ad.add (k * 6)).off + 2,none⟩ = some (.slice x.held.A x.held.len x.held.cap) ∧ w.cell? ⟨(ad.add (k * 6)).block,(ad.add (k * 6)).off + 5,none⟩ = some (.slice x.live.A x.live.len x.live.cap):=by
  obtain ⟨ad,x,e,hb,hx,hc0,hc⟩:=h.1.field hk
  exact ⟨ad,x,e,hb,hx,h.2 x (List.mem_of_getElem? hx),hc0 (by omega),hc 1 (by omega) (by omega),hc 2 (by omega) (by omega),hc 5 (by omega) (by omega)⟩
section
variable {H : Type} {enc : TypeId × Value → H} {P : Program} {w : World} {base : Nat} {held : Bool}
end
end Go.Proofs.Ytoekiejipdabmaa
namespace Go.Proofs.Ytoekiejipdabmaa
open Go.RowKit
theorem jM {w : World} {g : Nat} {t : TypeId} {x : Sc} (h : Blk w g t (scC x)) : w.cell? ⟨g,5,none⟩ = some (.slice x.live.A x.live.len x.live.cap):=h.cell 5
set_option maxRecDepth 100000 in
set_option maxHeartbeats 1600000 in
theorem jC (B : Nat) (s : Sc) (w : World) (hs : s.Ok w B) (hB : B ≤ w.heap.size) (i : Int) (hi : I64 i) (b : Bool) (hb : decide (0 ≤ i ∧ i < (s.live.len : Int) ∧ s.live.z.getD i.toNat 0 = 0) = b) :
    Calls Try.prog 8 #[scA s,.int .i64 i] w fun e w' => e = .returned (.bool b) ∧ Below w.heap.size w w':=by
  have HS:=kp hs;have HBt:=kp hb;have HI:=kp hi
  have hvc:=hs.live.lc;have hvm:=hs.live.cm
  unfold maxLen at hvm
  clear hs hb
  rw [l7]
  go_enter Try.func8,Try.ntmps8
  by_cases h0 : 0 ≤ i
  rotate_left
  · have h0b : decide (i ≥ 0) = false:=by simp;omega
    have HE : Kept (false = b):=kp (by rw [← HBt.out];symm;simp;omega)
    clear hi
    go_wp2_with (first
      | ((with_reducible refine j0 rfl 30 (.tmp 0) rfl (scC s) rfl ?_);intro g1 w1 hg1 hk1 hw1;have HW1:=kp hw1;have h5:=jM hk1;clear hg1 hk1 hw1))
    go_ret
    exact ⟨j4 HE.out,HW1.out⟩
  obtain ⟨k,rfl⟩ : ∃ k : Nat,i = (k : Int):=⟨i.toNat,by omega⟩
  by_cases h1 : k < s.live.len
  rotate_left
  · have HE : Kept (false = b):=kp (by rw [← HBt.out];symm;simp;omega)
    have hkl : ¬ k < s.live.len:=h1
    clear hi h1
    go_wp2_with (first
      | ((with_reducible refine j0 rfl 30 (.tmp 0) rfl (scC s) rfl ?_);intro g1 w1 hg1 hk1 hw1;have HW1:=kp hw1;have h5:=jM hk1;clear hg1 hk1 hw1))
    go_ret
    exact ⟨j4 HE.out,HW1.out⟩
  obtain ⟨ad,e0,had,_,hz,hc⟩:=HS.out.live.get h1
  obtain ⟨z,hze⟩ : ∃ z,s.live.z.getD k 0 = z:=⟨_,rfl⟩
  rw [hze] at hz hc
  have HC:=kp hc;have HE0:=kp e0
  have HE : Kept (((z : Int) == 0) = b):=kp (by
    rw [← HBt.out,Int.toNat_natCast,hze,Bool.eq_iff_iff,decide_eq_true_eq]
    simp
    omega)
  clear hi hc e0 hze
  go_wp2_with (first
    | ((with_reducible refine j0 rfl 30 (.tmp 0) rfl (scC s) rfl ?_);intro g1 w1 hg1 hk1 hw1;have HW1:=kp hw1;have h5:=jM hk1;rw [HE0.out] at h5;have hcz:=(hw1.cell (p:=ad.add k) (by rw [add_block];omega)).trans HC.out;clear hg1 hk1 hw1))
  go_ret
  exact ⟨j4 HE.out,HW1.out⟩
theorem jF : (Try.prog.info? 30).map (·.zero) = some (some (.agg (scC default).toArray)):=by kernel_rfl
theorem l4 {w : World} {g : Nat} {t : TypeId} {l : List Nat} (h : Blk w g t (l.map wordV)) (hl : ∀ x ∈ l,x < 4294967296) (n : Nat) (hn : l.length = n) (hm : n ≤ 1000) : (⟨some ⟨g,0,none⟩,n,n,l⟩ : Ws).Ok w w.heap.size :=
  ⟨Blk.row h hn (Nat.le_refl _),hl,Nat.le_refl _,by unfold maxLen;show n ≤ 2 ^ 63 - 1;omega⟩
theorem j1 {P : Program} {ops : Array Oper} {rest : List Oper} {o : Oper} {a : Act} {w : World} {Q : Exit → Act → World → Prop} (hgd : Region.wanted o (yielded ops a.tmps) = true) (ty : TypeId) (x : Operand) (ho : o.op = .load ty x)
    (g : Nat) (hx : a.eval x = .pointer (some ⟨g,0,none⟩)) (t : TypeId) (cs : List Value) (d : TypeDesc) (hg : Blk w g t cs)
    (hu : P.underlying ty = some d) (hd : (match d with | .struct _ | .array _ _ => true | _ => false) = true) (hi : (P.info? ty).map (·.size) = some cs.length)
    (h : wpList P ops Q rest (a.put o.dst (.agg cs.toArray)) w) : wpList P ops Q (o :: rest) a w:=by
  exact BigFrame.wpList_want hgd fun _ hK => wp_load_row ty x ho g hx t cs.toArray (0,0) d hg hu hd (by simpa using hi) (hK _ _ h)
end Go.Proofs.Ytoekiejipdabmaa
