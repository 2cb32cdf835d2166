/- KillP3, MayLaw2, MustIn, MustMath, MayMath, MustP1, MayP2, SecKit. -/
import Derived.Test.YtoekiejipdabmaaDoorKillP2
import Derived.Test.YtoekiejipdabmaaDoorPk1
import Derived.Test.YtoekiejipdabmaaDoorPk5
import Derived.Test.YtoekiejipdabmaaDoorPk2
namespace Go.Proofs.YtoekiejipdabmaaDoor
open Go.RowKit
theorem XC {ms : List Nat} {m i x : Nat} (h : BitsAre m (fun f => ∃ y,(ms.take i)[f]? = some y ∧ y ≠ 0)) (hx : ms[i]? = some x) (hi : i < 32) :
    (x ≠ 0 → BitsAre (m ||| 2 ^ i) (fun f => ∃ y,(ms.take (i + 1))[f]? = some y ∧ y ≠ 0)) ∧ (x = 0 → BitsAre m (fun f => ∃ y,(ms.take (i + 1))[f]? = some y ∧ y ≠ 0)):=by
  have hil : i < ms.length:=(List.getElem?_eq_some_iff.1 hx).1
  have key : ∀ f,(∃ y,(ms.take (i + 1))[f]? = some y ∧ y ≠ 0) ↔ (∃ y,(ms.take i)[f]? = some y ∧ y ≠ 0) ∨ (f = i ∧ x ≠ 0):=by
    intro f
    rw [List.getElem?_take,List.getElem?_take]
    rcases Nat.lt_trichotomy f i with h1 | h1 | h1
    · rw [if_pos (show f < i + 1 by omega),if_pos h1]
      constructor
      · exact .inl
      · rintro (h2 | ⟨h2,_⟩)
        · exact h2
        · omega
    · subst h1
      rw [if_pos (show f < f + 1 by omega),if_neg (Nat.lt_irrefl f),hx]
      constructor
      · rintro ⟨y,hy,h0⟩;cases hy;exact .inr ⟨rfl,h0⟩
      · rintro (⟨y,hy,_⟩ | ⟨_,h0⟩)
        · cases hy
        · exact ⟨x,rfl,h0⟩
    · rw [if_neg (show ¬ f < i + 1 by omega),if_neg (show ¬ f < i by omega)]
      constructor
      · rintro ⟨y,hy,_⟩;cases hy
      · rintro (⟨y,hy,_⟩ | ⟨h2,_⟩)
        · cases hy
        · omega
  constructor
  · intro h0
    have hb:=xC (i : Int)
    rw [S.one_nat i (by omega)] at hb
    refine (vV h hb).congr fun f _ => ?_
    rw [key f]
    constructor
    · rintro (h1 | h1)
      · exact .inl h1
      · exact .inr ⟨by omega,h0⟩
    · rintro (h1 | ⟨h1,_⟩)
      · exact .inl h1
      · exact .inr (by omega)
  · intro h0
    refine h.congr fun f _ => ?_
    rw [key f]
    constructor
    · exact .inl
    · rintro (h1 | ⟨_,h2⟩)
      · exact h1
      · exact absurd h0 h2
theorem yP {p : Pg} {a b : Int} {f m : Nat} (h : BitsAre m (MayDo p a b f)) : m ≠ 0 ↔ ∃ id,id < 32 ∧ MayDo p a b f id:=by
  constructor
  · intro h0
    refine Classical.byContradiction fun hno => h0 ?_
    refine h.uniq (qC.congr fun id hid => ?_)
    constructor
    · intro hf;exact hf.elim
    · intro hm;exact hno ⟨id,hid,hm⟩
  · rintro ⟨id,hid,hm⟩ rfl
    have:=(h.2 id hid).2 hm
    simp at this
def BeginsAre (p : Pg) (c m : Nat) : Prop:=(c ≠ 0 → m = 0) ∧ (c = 0 → BitsAre m (fun f => f < p.len ∧ ∃ id,id < 32 ∧ MayDo p 5 5 f id))
theorem BeginsAre.uniq {p : Pg} {c m m' : Nat} (h : BeginsAre p c m) (h' : BeginsAre p c m') : m = m':=by
  by_cases hc : c = 0
  · exact (h.2 hc).uniq (h'.2 hc)
  · rw [h.1 hc,h'.1 hc]
set_option maxRecDepth 100000 in
set_option maxHeartbeats 1600000 in
theorem LL (B : Nat) (p : Pg) (w : World) (hp : p.Ok w B) (hB : B ≤ w.heap.size) (hs : Q.small p = true) (ht : Tab w) (c0 c1 : Int) (c : Nat) (hc : Q.check p = (c0,c1,c)) (mb : Nat) (hmb : BeginsAre p c mb) :
    Calls Tryd.prog 19 #[pgA p] w fun e w' => e = .returned (.tuple #[.int .u32 (mb : Int),.int .i64 (c : Int)]) ∧ Below w.heap.size w w':=by
  have HP:=kp hp;have HS:=kp hs;have HT:=kp ht;have HC:=kp hc;have HMb:=kp hmb
  have hw1:=ht.size
  have HLen:=kp hp.row.len
  obtain ⟨us,hus⟩ : ∃ us,killA p 5 5 c = us:=⟨_,rfl⟩
  obtain ⟨n,hn⟩ : ∃ n,us.length = n:=⟨_,rfl⟩
  have hn16 : n ≤ 16:=by
    by_cases hz : c = 0
    · subst hz
      have h1:=(qZ hc).counts.f
      have h2:=hp.row.len
      rw [← hn,← hus,uO,yH]
      omega
    · rw [← hn,← hus,uP _ _ _ hz];simp
  have HU:=kp hus;have HN:=kp hn
  clear hp hs ht hc hus hmb hn
  rw [jM]
  go_enter Tryd.func19,Tryd.ntmps19
  go_wp2_with (first
    | ((with_reducible refine j4 rfl 24 (.tmp 0) rfl (pgC p) rfl ?_);intro g1 w1 hg1 hk1 hw1;obtain ⟨hc0,hc1,hc2,hc3⟩:=j8 hk1;have HW1:=kp hw1;have hs1:=hw1.size;clear hg1 hk1 hw1)
    | (go_at_call 36;go_must (refine (LK B p w1 (HP.out.below (HW1.out.mono hB)) (Nat.le_trans hB hs1) HS.out (HT.out.below HW1.out hw1) c0 c1 c HC.out 37 5 5 ⟨rfl,rfl,rfl⟩ us HU.out).mono ?_);rintro e w2 ⟨v,rfl,hown,hb2⟩
       obtain ⟨A2,k2,rfl,hk2,hm2,hr2⟩:=Own.readsN hown HN.out
       have HR2:=kp hr2;have HW2:=kp (HW1.out.trans (hb2.mono hs1));clear hown hb2 hc0 hc1 hc2 hc3 hr2
       unfold maxLen at hm2))
  go_loop [6,16] (fun v6 v16 => ∃ i m : Nat,i ≤ n ∧ v16 = .int .i64 i ∧ v6 = .int .u32 (m : Int) ∧ BitsAre m (fun f => ∃ y,(us.take i)[f]? = some y ∧ y ≠ 0)) (fun _ v16 => n - (intOf v16).toNat)
  case atStart => exact ⟨0,0,by omega,rfl,rfl,qC.congr fun id _ => by simp⟩
  case round =>
    obtain ⟨i,m,hi,rfl,rfl,hm⟩:=hrel
    have HM:=kp hm
    have hm32:=hm.1
    by_cases hlt : i < n
    · obtain ⟨ad,x,rfl,_,hx,hcx⟩:=HR2.out.get hlt
      rw [lW] at hcx
      obtain ⟨hA,hZ⟩:=XC hm hx (by omega)
      have HX:=kp hx
      by_cases h0 : x = 0
      · subst h0
        have HZ:=kp (hZ rfl)
        clear hm hA hZ hx
        go_wp2
        go_round
        case rel => exact ⟨i + 1,m,by omega,by go_num,rfl,HZ.out⟩
        case measure => simp [intOf];omega
      · have hxb : ((x : Int) != (0 : Int)) = true:=by simp;omega
        have HA:=kp (hA h0)
        have hp31:=uG i (by omega)
        have hor : bits .or .u32 (m : Int) ((2 ^ i : Nat) : Int) = ((m ||| 2 ^ i : Nat) : Int):=u32_or_nat m (2 ^ i) hm32 (by omega)
        have HOne : Kept (S.one (i : Int) = 2 ^ i):=kp (S.one_nat i (by omega))
        generalize hq : 2 ^ i = q at *
        obtain ⟨qn,hqn⟩ : ∃ qn,m ||| q = qn:=⟨_,rfl⟩
        rw [hqn] at hor HA
        clear hm hA hZ hx h0 hq hqn
        go_wp2_with (go_at_call 35;go_must (refine (lS (i : Int) ⟨by omega,by omega⟩ q HOne.out _).mono ?_);rintro e w3 ⟨rfl,rfl⟩)
        go_round
        case rel => exact ⟨i + 1,qn,by omega,by go_num,rfl,HA.out⟩
        case measure => simp [intOf];omega
    · have hie : n ≤ i:=by omega
      have HE : Kept (m = mb):=kp (by
        refine BeginsAre.uniq (c:=c) ⟨fun hz => ?_,fun hz => ?_⟩ HMb.out
        · have h1:=HM.out
          rw [← HU.out,uP _ _ _ hz] at h1
          exact h1.uniq (qC.congr fun id _ => by simp)
        · subst hz
          have h1:=HM.out
          rw [List.take_of_length_le (by rw [HN.out];exact hie),← HU.out,uO] at h1
          refine h1.congr fun f _ => ?_
          constructor
          · rintro ⟨y,hy,h0⟩
            have hf : f < p.len:=by rw [← yH p 5 5];exact (List.getElem?_eq_some_iff.1 hy).1
            exact ⟨hf,(yP (X0 hy)).1 h0⟩
          · rintro ⟨hf,hid⟩
            exact ⟨_,uN hf,(yP (x9 _)).2 hid⟩)
      clear hm hlt
      go_wp2
      go_ret2
      rw [HE.out]
      exact ⟨rfl,HW2.out⟩
theorem xR (p : Pg) (c : Nat) : ∃ m,BeginsAre p c m:=by
  by_cases hc : c = 0
  · exact ⟨S.mask (setL (fun f => f < p.len ∧ ∃ id,id < 32 ∧ MayDo p 5 5 f id)),fun h => absurd hc h,fun _ => x9 _⟩
  · exact ⟨0,fun _ => rfl,fun h => absurd h hc⟩
theorem BeginsAre.lt {p : Pg} {c m : Nat} (h : BeginsAre p c m) : m < 4294967296:=by
  by_cases hc : c = 0
  · exact (h.2 hc).1
  · rw [h.1 hc];decide
end Go.Proofs.YtoekiejipdabmaaDoor
namespace Go.Proofs.YtoekiejipdabmaaDoor
open Go.ChangeShapes Go.WideShapes Go.RowKit Go.Deep
structure Ws where
  A : Option Addr
  len : Nat
  cap : Nat
  z : List Nat
instance : Inhabited Ws:=⟨⟨none,0,0,[]⟩⟩
def Ws.v (x : Ws) : Value:=.slice x.A x.len x.cap
structure Ws.Ok (x : Ws) (w : World) (B : Nat) : Prop where
  row : Row wordV w B x.A x.len x.z
  u32 : ∀ y ∈ x.z,y < 4294967296
  lc : x.len ≤ x.cap
  cm : x.cap ≤ maxLen
theorem Ws.Ok.keep {x : Ws} {w w' : World} {B : Nat} (h : x.Ok w B) (hk : ∀ p : Addr,p.block < B → w'.cell? p = w.cell? p) : x.Ok w' B:=⟨h.row.keep hk,h.u32,h.lc,h.cm⟩
theorem Ws.Ok.more {x : Ws} {w : World} {B B2 : Nat} (h : x.Ok w B) (hB : B ≤ B2) : x.Ok w B2:=⟨h.row.more hB,h.u32,h.lc,h.cm⟩
theorem Ws.Ok.getD {x : Ws} {w : World} {B : Nat} (h : x.Ok w B) (k : Nat) : x.z.getD k 0 < 4294967296:=by
  rw [List.getD_eq_getElem?_getD]
  cases e : x.z[k]? with
  | none => exact (by decide : 0 < 4294967296)
  | some y => exact h.u32 y (List.mem_of_getElem? e)
theorem Ws.Ok.get {x : Ws} {w : World} {B : Nat} (h : x.Ok w B) {k : Nat} (hk : k < x.len) : ∃ ad,x.A = some ad ∧ ad.block < B ∧ x.z[k]? = some (x.z.getD k 0) ∧ x.z.getD k 0 < 4294967296 ∧ w.cell? (ad.add k) = some (.int .u32 ((x.z.getD k 0 : Nat) : Int)):=by
  obtain ⟨ad,y,e,hb,hy,hc⟩:=h.row.get hk
  have e2 : x.z.getD k 0 = y:=by rw [List.getD_eq_getElem?_getD,hy];rfl
  rw [e2]
  exact ⟨ad,e,hb,hy,h.u32 y (List.mem_of_getElem? hy),hc⟩
structure Sc where
  en : Nat
  ex : Nat
  held : Ws
  le : Nat
  lx : Nat
  live : Ws
instance : Inhabited Sc:=⟨⟨0,0,default,0,0,default⟩⟩
def scV (x : Sc) : Nat → Value
  | 0 => .int .u32 (x.en : Int)
  | 1 => .int .u32 (x.ex : Int)
  | 2 => .slice x.held.A x.held.len x.held.cap
  | 3 => .int .u32 (x.le : Int)
  | 4 => .int .u32 (x.lx : Int)
  | _ => .slice x.live.A x.live.len x.live.cap
def scC (x : Sc) : List Value:=[.int .u32 (x.en : Int),.int .u32 (x.ex : Int),.slice x.held.A x.held.len x.held.cap,.int .u32 (x.le : Int),.int .u32 (x.lx : Int),.slice x.live.A x.live.len x.live.cap]
def scA (x : Sc) : Value:=.agg #[.int .u32 (x.en : Int),.int .u32 (x.ex : Int),.slice x.held.A x.held.len x.held.cap,.int .u32 (x.le : Int),.int .u32 (x.lx : Int),.slice x.live.A x.live.len x.live.cap]
theorem scA_is (x : Sc) : scA x = .agg (scC x).toArray:=rfl
structure Sc.Ok (x : Sc) (w : World) (B : Nat) : Prop where
  en : x.en < 4294967296
  ex : x.ex < 4294967296
  held : x.held.Ok w B
  le : x.le < 4294967296
  lx : x.lx < 4294967296
  live : x.live.Ok w B
theorem Sc.Ok.keep {x : Sc} {w w' : World} {B : Nat} (h : x.Ok w B) (hk : ∀ p : Addr,p.block < B → w'.cell? p = w.cell? p) : x.Ok w' B:=⟨h.en,h.ex,h.held.keep hk,h.le,h.lx,h.live.keep hk⟩
theorem Sc.Ok.more {x : Sc} {w : World} {B B2 : Nat} (h : x.Ok w B) (hB : B ≤ B2) : x.Ok w B2:=⟨h.en,h.ex,h.held.more hB,h.le,h.lx,h.live.more hB⟩
theorem Sc.Ok.below {x : Sc} {w w' : World} {B : Nat} (h : x.Ok w B) (hb : Below B w w') : x.Ok w' B:=h.keep fun _ hp => hb.cell hp
theorem Ws.Ok.below {x : Ws} {w w' : World} {B : Nat} (h : x.Ok w B) (hb : Below B w w') : x.Ok w' B:=h.keep fun _ hp => hb.cell hp
theorem XF (x : Sc) : ∀ u ∈ scC x,u.oneCell' = true:=by
  intro u hu
  simp only [scC,List.mem_cons,List.not_mem_nil,or_false] at hu
  rcases hu with h | h | h | h | h | h <;> subst h <;> rfl
theorem zC : (Tryd.prog.info? 56).map (·.size) = some 6:=by kernel_rfl
def Secs (w : World) (B : Nat) (A : Option Addr) (n : Nat) (l : List Sc) : Prop:=Recs 6 scV w B A n l ∧ ∀ x ∈ l,x.Ok w B
theorem Secs.keep {w w' : World} {B : Nat} {A : Option Addr} {n : Nat} {l : List Sc} (h : Secs w B A n l) (hk : ∀ p : Addr,p.block < B → w'.cell? p = w.cell? p) : Secs w' B A n l:=⟨h.1.keep hk,fun x hx => (h.2 x hx).keep hk⟩
theorem Secs.below {w w' : World} {B : Nat} {A : Option Addr} {n : Nat} {l : List Sc} (h : Secs w B A n l) (hb : Below B w w') : Secs w' B A n l:=h.keep fun _ hp => hb.cell hp
theorem Secs.more {w : World} {B B2 : Nat} {A : Option Addr} {n : Nat} {l : List Sc} (h : Secs w B A n l) (hB : B ≤ B2) : Secs w B2 A n l:=⟨h.1.more hB,fun x hx => (h.2 x hx).more hB⟩
theorem Secs.len_ {w : World} {B : Nat} {A : Option Addr} {n : Nat} {l : List Sc} (h : Secs w B A n l) : l.length = n:=h.1.len
theorem Secs.get {w : World} {B : Nat} {A : Option Addr} {n : Nat} {l : List Sc} (h : Secs w B A n l) {k : Nat} (hk : k < n) :
    ∃ ad x,A = some ad ∧ ad.block < B ∧ l[k]? = some x ∧ x.Ok w B ∧ w.cell? (ad.add (k * 6)) = some (.int .u32 (x.en : Int)) ∧ w.cell? ⟨(ad.add (k * 6)).block,(ad.add (k * 6)).off + 1,none⟩ = some (.int .u32 (x.ex : Int)) ∧
      w.cell? ⟨(ad.add (k * 6)).block,(ad.add (k * 6)).off + 2,none⟩ = some (.slice x.held.A x.held.len x.held.cap) ∧ w.cell? ⟨(ad.add (k * 6)).block,(ad.add (k * 6)).off + 5,none⟩ = some (.slice x.live.A x.live.len x.live.cap):=by
  obtain ⟨ad,x,e,hb,hx,hc0,hc⟩:=h.1.field hk
  exact ⟨ad,x,e,hb,hx,h.2 x (List.mem_of_getElem? hx),hc0 (by omega),hc 1 (by omega) (by omega),hc 2 (by omega) (by omega),hc 5 (by omega) (by omega)⟩
section
variable {H : Type} {enc : TypeId × Value → H} {P : Program} {w : World} {base : Nat} {held : Bool}
theorem uW {t e : TypeId} {v : Value} {fuel : Nat} {y : DataW H × List MemPlace} (ht : P.underlying t = some (.slice e)) (he : P.underlying e = some (.int .u32)) (hc : P.cellsOf e = 1)
    (h : DataW.trod enc P w base (fun _ => true) held fuel t [v] = some y) : ∃ x : Ws,v = x.v ∧ x.Ok w w.heap.size:=by
  rcases open_ints ht he hc h with ⟨hcs,_⟩ | ⟨x,l,c,zs,hcs,_,hl,hm,hz,_,hcell,hwz⟩
  · simp at hcs
    exact ⟨⟨none,0,0,[]⟩,hcs,Row.none_ rfl rfl,by simp,Nat.le_refl _,by simp [maxLen]⟩
  · simp at hcs
    have hrow : IsRow .u32 w (some x) l c zs:=.inr ⟨_,rfl,hl,hm,by simpa using hz,hcell,hwz⟩
    obtain ⟨bs,g1,g2,_,g4,g5⟩:=hrow.words
    exact ⟨⟨some x,l,c,bs⟩,hcs,g1,g2,g4,g5⟩
theorem xJ {t e t2 : TypeId} {f0 f1 f2 f3 f4 f5 : Field} {a : Option Addr} {len cap : Nat} {d : DataW H} {ps : List MemPlace} (ht : P.underlying t = some (.slice e)) (he : P.underlying e = some (.struct #[f0,f1,f2,f3,f4,f5]))
    (hone : oneCellFields P #[f0,f1,f2,f3,f4,f5] = true) (hC : P.cellsOf e = 6) (h0 : P.underlying f0.type = some (.int .u32)) (h1 : P.underlying f1.type = some (.int .u32)) (h2 : P.underlying f2.type = some (.slice t2)) (h22 : P.underlying t2 = some (.int .u32)) (hc2 : P.cellsOf t2 = 1)
    (h3 : P.underlying f3.type = some (.int .u32)) (h4 : P.underlying f4.type = some (.int .u32)) (h5 : P.underlying f5.type = some (.slice t2))
    (h : DataW.Trod enc P w base (fun _ => true) held t (.slice a len cap) d ps) :
    ∃ l : List Sc,Secs w w.heap.size a len l ∧ len ≤ cap ∧ cap ≤ maxLen:=by
  obtain ⟨hl,hm,hnil,hsome,hall⟩:=zW ht he hone hC h
  rcases Nat.eq_zero_or_pos len with h00 | h00
  · exact ⟨[],⟨⟨h00.symm ▸ rfl,fun h => by omega⟩,by simp⟩,hl,hm⟩
  · obtain ⟨ad,rfl⟩:=hsome h00
    obtain ⟨V,hV⟩:=hall ad rfl
    have each : ∀ i,i < len → ∃ x : Sc,x.Ok w w.heap.size ∧ ∀ j,j < 6 → w.cell? (ad.add (i * 6 + j)) = some (scV x j):=by
      intro i hi
      obtain ⟨c0,_,_,g0⟩:=hV i hi 0 f0 rfl
      obtain ⟨c1,_,_,g1⟩:=hV i hi 1 f1 rfl
      obtain ⟨c2,_,_,g2⟩:=hV i hi 2 f2 rfl
      obtain ⟨c3,_,_,g3⟩:=hV i hi 3 f3 rfl
      obtain ⟨c4,_,_,g4⟩:=hV i hi 4 f4 rfl
      obtain ⟨c5,_,_,g5⟩:=hV i hi 5 f5 rfl
      obtain ⟨n0,e0,w0⟩:=lC h0 g0
      obtain ⟨n1,e1,w1⟩:=lC h1 g1
      obtain ⟨x2,e2,w2⟩:=uW h2 h22 hc2 g2
      obtain ⟨n3,e3,w3⟩:=lC h3 g3
      obtain ⟨n4,e4,w4⟩:=lC h4 g4
      obtain ⟨x5,e5,w5⟩:=uW h5 h22 hc2 g5
      obtain ⟨m0,rfl,u0⟩:=vS w0
      obtain ⟨m1,rfl,u1⟩:=vS w1
      obtain ⟨m3,rfl,u3⟩:=vS w3
      obtain ⟨m4,rfl,u4⟩:=vS w4
      refine ⟨⟨m0,m1,x2,m3,m4,x5⟩,⟨u0,u1,w2,u3,u4,w5⟩,fun j hj => ?_⟩
      match j,hj with
      | 0,_ => rw [show scV _ 0 = Value.int .u32 (m0 : Int) from rfl,← e0];exact c0
      | 1,_ => rw [show scV _ 1 = Value.int .u32 (m1 : Int) from rfl,← e1];exact c1
      | 2,_ => rw [show scV _ 2 = x2.v from rfl,← e2];exact c2
      | 3,_ => rw [show scV _ 3 = Value.int .u32 (m3 : Int) from rfl,← e3];exact c3
      | 4,_ => rw [show scV _ 4 = Value.int .u32 (m4 : Int) from rfl,← e4];exact c4
      | 5,_ => rw [show scV _ 5 = x5.v from rfl,← e5];exact c5
    obtain ⟨X,hX⟩:=choose_lt each
    refine ⟨(List.range len).map X,⟨⟨by simp,fun _ => ⟨ad,rfl,?_,fun k x hx j hj => ?_⟩⟩,fun x hx => ?_⟩,hl,hm⟩
    · have:=qB ((hX 0 h00).2 0 (by omega))
      rwa [add_block] at this
    · have hk : k < len:=by have:=(List.getElem?_eq_some_iff.1 hx).1;simpa using this
      rw [List.getElem?_map,List.getElem?_range hk] at hx
      cases hx
      exact (hX k hk).2 j hj
    · obtain ⟨i,hi,rfl⟩:=List.mem_map.1 hx
      exact (hX i (List.mem_range.1 hi)).1
end
end Go.Proofs.YtoekiejipdabmaaDoor
namespace Go.Proofs.YtoekiejipdabmaaDoor
open Go.RowKit
namespace Mu
def behind (us : List Nat) (ls : List Sc) (n : Nd) (h : Nat) : Nat :=
  if n.kind = 3 then h ||| S.one n.arg
  else if n.kind = 4 then h &&& (4294967295 - S.one n.arg)
  else if n.kind = 7 then (h &&& (4294967295 - us.getD n.arg.toNat 0)) ||| (ls.getD n.arg.toNat default).ex
  else h
def badTo (us : List Nat) (ls : List Sc) (s : Sc) (n : Nd) (h : Nat) (to : Int) : Bool:=!S.within (s.held.z.getD to.toNat 0) (behind us ls n h) 32
def node (us : List Nat) (ls : List Sc) (s : Sc) (n : Nd) (h : Nat) : Nat :=
  if n.kind = 7 ∧ S.within (ls.getD n.arg.toNat default).en h 32 = false then 5
  else if n.kind = 9 ∧ S.within s.ex h 32 = false then 4
  else if (Q.succ n).any (badTo us ls s n h) = true then 3 else 0
def first (g : Nat → Nat) : Nat → Nat × Nat
  | 0 => (0,0)
  | n + 1 => if (first g n).2 ≠ 0 then first g n else if g n ≠ 0 then (n,g n) else (0,0)
theorem first_none (g : Nat → Nat) : ∀ n,(∀ i,i < n → g i = 0) → first g n = (0,0)
  | 0,_ => rfl
  | n + 1,h => by
    have h1:=first_none g n fun i hi => h i (by omega)
    unfold first
    rw [h1,if_neg (by simp),if_neg (by rw [h n (by omega)];simp)]
theorem first_hit (g : Nat → Nat) {k : Nat} (h0 : ∀ i,i < k → g i = 0) (hk : g k ≠ 0) : ∀ n,k < n → first g n = (k,g k)
  | 0,h => absurd h (by omega)
  | n + 1,h => by
    unfold first
    by_cases e : k = n
    · subst e
      rw [first_none g k h0,if_neg (by simp),if_pos hk]
    · rw [first_hit g h0 hk n (by omega),if_pos hk]
theorem first_zero (g : Nat → Nat) : ∀ n,(first g n).2 = 0 → ∀ i,i < n → g i = 0
  | 0,_,i,hi => absurd hi (by omega)
  | n + 1,h,i,hi => by
    unfold first at h
    by_cases h1 : (first g n).2 ≠ 0
    · rw [if_pos h1] at h;exact absurd h h1
    · rw [if_neg h1] at h
      by_cases h2 : g n ≠ 0
      · rw [if_pos h2] at h;exact absurd h h2
      · by_cases e : i = n
        · subst e;omega
        · exact first_zero g n (by omega) i (by omega)
def at_ (us : List Nat) (ls : List Sc) (s : Sc) (l : List Nd) (i : Nat) : Nat:=node us ls s (l.getD i default) (s.held.z.getD i 0)
def func (us : List Nat) (ls : List Sc) (b : Bool) (s : Sc) (l : List Nd) : Int × Nat :=
  if b = true ∧ s.en ≠ 0 then (-1,2)
  else if S.within (s.held.z.getD 0 0) s.en 32 = false then (-1,3)
  else (((first (at_ us ls s l) l.length).1 : Int),(first (at_ us ls s l) l.length).2)
def bare (p : Pg) (f : Nat) : Bool:=decide (f = 0) || p.fns.any fun fn => fn.nodes.any (names 5 f)
def sec (ls : List Sc) (f : Nat) : Sc:=ls.getD f default
def fn (p : Pg) (f : Nat) : Fn:=p.fns.getD f default
def fun_ (p : Pg) (us : List Nat) (ls : List Sc) (f : Nat) : Int × Nat:=func us ls (bare p f) (sec ls f) (fn p f).nodes
def shapedAt (p : Pg) (ls : List Sc) (f : Nat) : Bool:=decide ((sec ls f).held.len = (fn p f).len) && decide ((sec ls f).live.len = (fn p f).len)
def shaped (p : Pg) (ls : List Sc) : Bool:=decide (ls.length = p.len) && (List.range p.len).all (shapedAt p ls)
theorem shaped_iff {p : Pg} {ls : List Sc} : shaped p ls = true ↔ ls.length = p.len ∧ ∀ f,f < p.len → shapedAt p ls f = true:=by
  unfold shaped
  rw [Bool.and_eq_true,decide_eq_true_eq,List.all_eq_true]
  simp only [List.mem_range]
def check (p : Pg) (us : List Nat) (ls : List Sc) : Int × Int × Nat :=
  if shaped p ls = false then (-1,-1,1)
  else if (first (fun f => (fun_ p us ls f).2) p.len).2 = 0 then (0,0,0)
  else (((first (fun f => (fun_ p us ls f).2) p.len).1 : Int),(fun_ p us ls (first (fun f => (fun_ p us ls f).2) p.len).1).1,(first (fun f => (fun_ p us ls f).2) p.len).2)
theorem check_shape {p : Pg} {us : List Nat} {ls : List Sc} (h : shaped p ls = false) : check p us ls = (-1,-1,1):=if_pos h
theorem check_none {p : Pg} {us : List Nat} {ls : List Sc} (h : shaped p ls = true) (h0 : ∀ f,f < p.len → (fun_ p us ls f).2 = 0) : check p us ls = (0,0,0):=by
  unfold check
  rw [if_neg (by rw [h];simp),first_none _ _ h0,if_pos rfl]
theorem check_hit {p : Pg} {us : List Nat} {ls : List Sc} (h : shaped p ls = true) {k : Nat} (hk : k < p.len) (h0 : ∀ f,f < k → (fun_ p us ls f).2 = 0) {a : Int} {c : Nat} (hc : fun_ p us ls k = (a,c)) (hcz : c ≠ 0) : check p us ls = ((k : Int),a,c):=by
  unfold check
  have h1:=first_hit (fun f => (fun_ p us ls f).2) h0 (by show (fun_ p us ls k).2 ≠ 0;rw [hc];exact hcz) p.len hk
  rw [if_neg (by rw [h];simp),h1]
  simp only [hc]
  rw [if_neg hcz]
theorem check_fine {p : Pg} {us : List Nat} {ls : List Sc} (h : (check p us ls).2.2 = 0) : shaped p ls = true ∧ ∀ f,f < p.len → (fun_ p us ls f).2 = 0:=by
  unfold check at h
  by_cases h1 : shaped p ls = false
  · rw [if_pos h1] at h;cases h
  · rw [if_neg h1] at h
    refine ⟨by simpa using h1,?_⟩
    by_cases h2 : (first (fun f => (fun_ p us ls f).2) p.len).2 = 0
    · exact first_zero _ _ h2
    · rw [if_neg h2] at h;exact absurd h h2
theorem func_fine {us : List Nat} {ls : List Sc} {b : Bool} {s : Sc} {l : List Nd} : (func us ls b s l).2 = 0 ↔ (b = true → s.en = 0) ∧ S.within (s.held.z.getD 0 0) s.en 32 = true ∧ ∀ i,i < l.length → at_ us ls s l i = 0:=by
  unfold func
  by_cases h1 : b = true ∧ s.en ≠ 0
  · rw [if_pos h1]
    constructor
    · intro h;cases h
    · rintro ⟨h,_⟩;exact absurd (h h1.1) h1.2
  · rw [if_neg h1]
    have h1' : b = true → s.en = 0:=fun hb => Classical.byContradiction fun hn => h1 ⟨hb,hn⟩
    by_cases h2 : S.within (s.held.z.getD 0 0) s.en 32 = false
    · rw [if_pos h2]
      constructor
      · intro h;cases h
      · rintro ⟨_,h,_⟩;rw [h2] at h;cases h
    · rw [if_neg h2]
      have h2' : S.within (s.held.z.getD 0 0) s.en 32 = true:=by simpa using h2
      constructor
      · intro h;exact ⟨h1',h2',first_zero _ _ h⟩
      · rintro ⟨_,_,h⟩;rw [first_none _ _ h]
theorem func_none {us : List Nat} {ls : List Sc} {b : Bool} {s : Sc} {l : List Nd} (hb : ¬ (b = true ∧ s.en ≠ 0)) (h : S.within (s.held.z.getD 0 0) s.en 32 = true) (h0 : ∀ i,i < l.length → at_ us ls s l i = 0) : func us ls b s l = (0,0):=by
  unfold func;rw [if_neg hb,if_neg (by rw [h];simp),first_none _ _ h0];rfl
theorem func_hit {us : List Nat} {ls : List Sc} {b : Bool} {s : Sc} {l : List Nd} (hb : ¬ (b = true ∧ s.en ≠ 0)) (h : S.within (s.held.z.getD 0 0) s.en 32 = true) {k : Nat} (hk : k < l.length) (h0 : ∀ i,i < k → at_ us ls s l i = 0) (hc : at_ us ls s l k ≠ 0) : func us ls b s l = ((k : Int),at_ us ls s l k):=by
  unfold func;rw [if_neg hb,if_neg (by rw [h];simp),first_hit _ h0 hc _ hk]
theorem node_call {us : List Nat} {ls : List Sc} {s : Sc} {n : Nd} {h : Nat} (h7 : n.kind = 7) (hw : S.within (ls.getD n.arg.toNat default).en h 32 = false) : node us ls s n h = 5:=if_pos ⟨h7,hw⟩
theorem node_exit {us : List Nat} {ls : List Sc} {s : Sc} {n : Nd} {h : Nat} (h9 : n.kind = 9) (hw : S.within s.ex h 32 = false) : node us ls s n h = 4:=by
  unfold node;rw [if_neg (by rw [h9];simp),if_pos ⟨h9,hw⟩]
def Past (ls : List Sc) (s : Sc) (n : Nd) (h : Nat) : Prop:=¬ (n.kind = 7 ∧ S.within (ls.getD n.arg.toNat default).en h 32 = false) ∧ ¬ (n.kind = 9 ∧ S.within s.ex h 32 = false)
theorem node_bad {us : List Nat} {ls : List Sc} {s : Sc} {n : Nd} {h : Nat} (hp : Past ls s n h) {to : Int} (ht : to ∈ Q.succ n) (hb : badTo us ls s n h to = true) : node us ls s n h = 3:=by
  unfold node;rw [if_neg hp.1,if_neg hp.2,if_pos (List.any_eq_true.2 ⟨to,ht,hb⟩)]
theorem node_fine {us : List Nat} {ls : List Sc} {s : Sc} {n : Nd} {h : Nat} (hp : Past ls s n h) (hb : ∀ to ∈ Q.succ n,badTo us ls s n h to = false) : node us ls s n h = 0:=by
  unfold node
  rw [if_neg hp.1,if_neg hp.2,if_neg]
  intro h1
  obtain ⟨to,h2,h3⟩:=List.any_eq_true.1 h1
  rw [hb to h2] at h3
  cases h3
theorem node_zero {us : List Nat} {ls : List Sc} {s : Sc} {n : Nd} {h : Nat} : node us ls s n h = 0 ↔
    (n.kind = 7 → S.within (ls.getD n.arg.toNat default).en h 32 = true) ∧ (n.kind = 9 → S.within s.ex h 32 = true) ∧ ∀ to ∈ Q.succ n,S.within (s.held.z.getD to.toNat 0) (behind us ls n h) 32 = true:=by
  constructor
  · intro h0
    by_cases h1 : n.kind = 7 ∧ S.within (ls.getD n.arg.toNat default).en h 32 = false
    · rw [node_call h1.1 h1.2] at h0;cases h0
    by_cases h2 : n.kind = 9 ∧ S.within s.ex h 32 = false
    · rw [node_exit h2.1 h2.2] at h0;cases h0
    refine ⟨fun h7 => ?_,fun h9 => ?_,fun to ht => ?_⟩
    · cases e : S.within (ls.getD n.arg.toNat default).en h 32 with
      | true => rfl
      | false => exact absurd ⟨h7,e⟩ h1
    · cases e : S.within s.ex h 32 with
      | true => rfl
      | false => exact absurd ⟨h9,e⟩ h2
    · cases e : S.within (s.held.z.getD to.toNat 0) (behind us ls n h) 32 with
      | true => rfl
      | false => rw [node_bad ⟨h1,h2⟩ ht (by unfold badTo;rw [e];rfl)] at h0;cases h0
  · rintro ⟨h7,h9,hs⟩
    refine node_fine ⟨fun h1 => ?_,fun h1 => ?_⟩ fun to ht => by unfold badTo;rw [hs to ht];rfl
    · rw [h7 h1.1] at h1;cases h1.2
    · rw [h9 h1.1] at h1;cases h1.2
end Mu
end Go.Proofs.YtoekiejipdabmaaDoor
namespace Go.Proofs.YtoekiejipdabmaaDoor
open Go.RowKit
namespace Ma
def exit_ (ls : List Sc) (n : Nd) : Nat:=if n.kind = 7 then (ls.getD n.arg.toNat default).lx else 0
def beh (bg : Nat) (lost : Int) (ls : List Sc) (n : Nd) (h : Nat) : Nat:=behind n h (exit_ ls n) lost (S.has bg n.arg)
def badTo (bg : Nat) (lost : Int) (ls : List Sc) (s : Sc) (n : Nd) (h : Nat) (to : Int) : Bool:=!S.within (beh bg lost ls n h) (s.live.z.getD to.toNat 0) 32
def node (bg : Nat) (lost : Int) (ls : List Sc) (s : Sc) (n : Nd) (h : Nat) : Nat :=
  if n.kind = 7 ∧ S.within h (ls.getD n.arg.toNat default).le 32 = false then 6
  else if n.kind = 9 ∧ S.within h s.lx 32 = false then 6
  else if n.kind = 5 ∧ S.has (ls.getD n.arg.toNat default).le lost = false then 7
  else if (Q.succ n).any (badTo bg lost ls s n h) = true then 6 else 0
def at_ (bg : Nat) (lost : Int) (ls : List Sc) (s : Sc) (l : List Nd) (i : Nat) : Nat:=node bg lost ls s (l.getD i default) (s.live.z.getD i 0)
def func (bg : Nat) (lost : Int) (ls : List Sc) (s : Sc) (l : List Nd) : Int × Nat :=
  if S.within s.le (s.live.z.getD 0 0) 32 = false then (-1,6)
  else (((Mu.first (at_ bg lost ls s l) l.length).1 : Int),(Mu.first (at_ bg lost ls s l) l.length).2)
def fun_ (p : Pg) (bg : Nat) (ls : List Sc) (f : Nat) : Int × Nat:=func bg p.s ls (Mu.sec ls f) (Mu.fn p f).nodes
def check (p : Pg) (bg : Nat) (ls : List Sc) : Int × Int × Nat :=
  if Mu.shaped p ls = false then (-1,-1,1)
  else if (Mu.first (fun f => (fun_ p bg ls f).2) p.len).2 = 0 then (0,0,0)
  else (((Mu.first (fun f => (fun_ p bg ls f).2) p.len).1 : Int),(fun_ p bg ls (Mu.first (fun f => (fun_ p bg ls f).2) p.len).1).1,(Mu.first (fun f => (fun_ p bg ls f).2) p.len).2)
theorem check_shape {p : Pg} {bg : Nat} {ls : List Sc} (h : Mu.shaped p ls = false) : check p bg ls = (-1,-1,1):=if_pos h
theorem check_none {p : Pg} {bg : Nat} {ls : List Sc} (h : Mu.shaped p ls = true) (h0 : ∀ f,f < p.len → (fun_ p bg ls f).2 = 0) : check p bg ls = (0,0,0):=by
  unfold check
  rw [if_neg (by rw [h];simp),Mu.first_none _ _ h0,if_pos rfl]
theorem check_hit {p : Pg} {bg : Nat} {ls : List Sc} (h : Mu.shaped p ls = true) {k : Nat} (hk : k < p.len) (h0 : ∀ f,f < k → (fun_ p bg ls f).2 = 0) {a : Int} {c : Nat} (hc : fun_ p bg ls k = (a,c)) (hcz : c ≠ 0) : check p bg ls = ((k : Int),a,c):=by
  unfold check
  have h1:=Mu.first_hit (fun f => (fun_ p bg ls f).2) h0 (by show (fun_ p bg ls k).2 ≠ 0;rw [hc];exact hcz) p.len hk
  rw [if_neg (by rw [h];simp),h1]
  simp only [hc]
  rw [if_neg hcz]
theorem check_fine {p : Pg} {bg : Nat} {ls : List Sc} (h : (check p bg ls).2.2 = 0) : Mu.shaped p ls = true ∧ ∀ f,f < p.len → (fun_ p bg ls f).2 = 0:=by
  unfold check at h
  by_cases h1 : Mu.shaped p ls = false
  · rw [if_pos h1] at h;cases h
  · rw [if_neg h1] at h
    refine ⟨by simpa using h1,?_⟩
    by_cases h2 : (Mu.first (fun f => (fun_ p bg ls f).2) p.len).2 = 0
    · exact Mu.first_zero _ _ h2
    · rw [if_neg h2] at h;exact absurd h h2
theorem func_fine {bg : Nat} {lost : Int} {ls : List Sc} {s : Sc} {l : List Nd} : (func bg lost ls s l).2 = 0 ↔ S.within s.le (s.live.z.getD 0 0) 32 = true ∧ ∀ i,i < l.length → at_ bg lost ls s l i = 0:=by
  unfold func
  by_cases h2 : S.within s.le (s.live.z.getD 0 0) 32 = false
  · rw [if_pos h2]
    constructor
    · intro h;cases h
    · rintro ⟨h,_⟩;rw [h2] at h;cases h
  · rw [if_neg h2]
    have h2' : S.within s.le (s.live.z.getD 0 0) 32 = true:=by simpa using h2
    constructor
    · intro h;exact ⟨h2',Mu.first_zero _ _ h⟩
    · rintro ⟨_,h⟩;rw [Mu.first_none _ _ h]
theorem func_live {bg : Nat} {lost : Int} {ls : List Sc} {s : Sc} {l : List Nd} (h : S.within s.le (s.live.z.getD 0 0) 32 = false) : func bg lost ls s l = (-1,6):=if_pos h
theorem func_none {bg : Nat} {lost : Int} {ls : List Sc} {s : Sc} {l : List Nd} (h : S.within s.le (s.live.z.getD 0 0) 32 = true) (h0 : ∀ i,i < l.length → at_ bg lost ls s l i = 0) : func bg lost ls s l = (0,0):=by
  unfold func;rw [if_neg (by rw [h];simp),Mu.first_none _ _ h0];rfl
theorem func_hit {bg : Nat} {lost : Int} {ls : List Sc} {s : Sc} {l : List Nd} (h : S.within s.le (s.live.z.getD 0 0) 32 = true) {k : Nat} (hk : k < l.length) (h0 : ∀ i,i < k → at_ bg lost ls s l i = 0) (hc : at_ bg lost ls s l k ≠ 0) : func bg lost ls s l = ((k : Int),at_ bg lost ls s l k):=by
  unfold func;rw [if_neg (by rw [h];simp),Mu.first_hit _ h0 hc _ hk]
theorem node_call {bg : Nat} {lost : Int} {ls : List Sc} {s : Sc} {n : Nd} {h : Nat} (h7 : n.kind = 7) (hw : S.within h (ls.getD n.arg.toNat default).le 32 = false) : node bg lost ls s n h = 6:=if_pos ⟨h7,hw⟩
theorem node_exit {bg : Nat} {lost : Int} {ls : List Sc} {s : Sc} {n : Nd} {h : Nat} (h9 : n.kind = 9) (hw : S.within h s.lx 32 = false) : node bg lost ls s n h = 6:=by
  unfold node;rw [if_neg (by rw [h9];simp),if_pos ⟨h9,hw⟩]
theorem node_spawn {bg : Nat} {lost : Int} {ls : List Sc} {s : Sc} {n : Nd} {h : Nat} (h5 : n.kind = 5) (hw : S.has (ls.getD n.arg.toNat default).le lost = false) : node bg lost ls s n h = 7:=by
  unfold node;rw [if_neg (by rw [h5];simp),if_neg (by rw [h5];simp),if_pos ⟨h5,hw⟩]
structure Past (lost : Int) (ls : List Sc) (s : Sc) (n : Nd) (h : Nat) : Prop where
  call : ¬ (n.kind = 7 ∧ S.within h (ls.getD n.arg.toNat default).le 32 = false)
  exit : ¬ (n.kind = 9 ∧ S.within h s.lx 32 = false)
  spawn : ¬ (n.kind = 5 ∧ S.has (ls.getD n.arg.toNat default).le lost = false)
theorem node_bad {bg : Nat} {lost : Int} {ls : List Sc} {s : Sc} {n : Nd} {h : Nat} (hp : Past lost ls s n h) {to : Int} (ht : to ∈ Q.succ n) (hb : badTo bg lost ls s n h to = true) : node bg lost ls s n h = 6:=by
  unfold node;rw [if_neg hp.call,if_neg hp.exit,if_neg hp.spawn,if_pos (List.any_eq_true.2 ⟨to,ht,hb⟩)]
theorem node_fine {bg : Nat} {lost : Int} {ls : List Sc} {s : Sc} {n : Nd} {h : Nat} (hp : Past lost ls s n h) (hb : ∀ to ∈ Q.succ n,badTo bg lost ls s n h to = false) : node bg lost ls s n h = 0:=by
  unfold node
  rw [if_neg hp.call,if_neg hp.exit,if_neg hp.spawn,if_neg]
  intro h1
  obtain ⟨to,h2,h3⟩:=List.any_eq_true.1 h1
  rw [hb to h2] at h3
  cases h3
theorem node_zero {bg : Nat} {lost : Int} {ls : List Sc} {s : Sc} {n : Nd} {h : Nat} : node bg lost ls s n h = 0 ↔
    (n.kind = 7 → S.within h (ls.getD n.arg.toNat default).le 32 = true) ∧ (n.kind = 9 → S.within h s.lx 32 = true) ∧ (n.kind = 5 → S.has (ls.getD n.arg.toNat default).le lost = true) ∧ ∀ to ∈ Q.succ n,S.within (beh bg lost ls n h) (s.live.z.getD to.toNat 0) 32 = true:=by
  constructor
  · intro h0
    by_cases h1 : n.kind = 7 ∧ S.within h (ls.getD n.arg.toNat default).le 32 = false
    · rw [node_call h1.1 h1.2] at h0;cases h0
    by_cases h2 : n.kind = 9 ∧ S.within h s.lx 32 = false
    · rw [node_exit h2.1 h2.2] at h0;cases h0
    by_cases h3 : n.kind = 5 ∧ S.has (ls.getD n.arg.toNat default).le lost = false
    · rw [node_spawn h3.1 h3.2] at h0;cases h0
    refine ⟨fun h7 => ?_,fun h9 => ?_,fun h5 => ?_,fun to ht => ?_⟩
    · cases e : S.within h (ls.getD n.arg.toNat default).le 32 with
      | true => rfl
      | false => exact absurd ⟨h7,e⟩ h1
    · cases e : S.within h s.lx 32 with
      | true => rfl
      | false => exact absurd ⟨h9,e⟩ h2
    · cases e : S.has (ls.getD n.arg.toNat default).le lost with
      | true => rfl
      | false => exact absurd ⟨h5,e⟩ h3
    · cases e : S.within (beh bg lost ls n h) (s.live.z.getD to.toNat 0) 32 with
      | true => rfl
      | false => rw [node_bad ⟨h1,h2,h3⟩ ht (by unfold badTo;rw [e];rfl)] at h0;cases h0
  · rintro ⟨h7,h9,h5,hs⟩
    refine node_fine ⟨fun h1 => ?_,fun h1 => ?_,fun h1 => ?_⟩ fun to ht => by unfold badTo;rw [hs to ht];rfl
    · rw [h7 h1.1] at h1;cases h1.2
    · rw [h9 h1.1] at h1;cases h1.2
    · rw [h5 h1.1] at h1;cases h1.2
end Ma
end Go.Proofs.YtoekiejipdabmaaDoor
namespace Go.Proofs.YtoekiejipdabmaaDoor
open Go.RowKit
theorem zU {ls : List Sc} {f : Nat} {x : Sc} (h : ls[f]? = some x) : Mu.sec ls f = x:=by unfold Mu.sec;rw [List.getD_eq_getElem?_getD,h];rfl
theorem JI {p : Pg} {f : Nat} {x : Fn} (h : p.fns[f]? = some x) : Mu.fn p f = x:=by unfold Mu.fn;rw [List.getD_eq_getElem?_getD,h];rfl
theorem q9 {p : Pg} {ls : List Sc} {f : Nat} {x : Sc} {fn : Fn} (h : ls[f]? = some x) (hf : p.fns[f]? = some fn) : Mu.shapedAt p ls f = (decide (x.held.len = fn.len) && decide (x.live.len = fn.len)):=by
  unfold Mu.shapedAt;rw [zU h,JI hf]
theorem yB {p : Pg} {ls : List Sc} {f : Nat} (hf : f < p.len) (h : Mu.shapedAt p ls f = false) : Mu.shaped p ls = false:=by
  cases e : Mu.shaped p ls with
  | false => rfl
  | true => have:=(Mu.shaped_iff.1 e).2 f hf;rw [h] at this;cases this
set_option maxRecDepth 100000 in
set_option maxHeartbeats 1600000 in
theorem LF (B : Nat) (p : Pg) (w : World) (hp : p.Ok w B) (hB : B ≤ w.heap.size) (lA : Option Addr) (ll lc : Nat) (ls : List Sc) (hl : Secs w B lA ll ls) (hlc : ll ≤ lc) (hlm : lc ≤ maxLen) (r : Bool) (hr : Mu.shaped p ls = r) :
    Calls Tryd.prog 20 #[pgA p,.slice lA ll lc] w fun e w' => e = .returned (.bool r) ∧ Below w.heap.size w w':=by
  have HP:=kp hp;have HL:=kp hl;have HR:=kp hr
  have HLl:=kp hl.len_
  have HLen:=kp hp.row.len
  have hpc:=hp.lc;have hpm:=hp.cm
  unfold maxLen at hpm hlm
  clear hp hl hr
  rw [jM]
  go_enter Tryd.func20,Tryd.ntmps20
  by_cases hlen : ll = p.len
  rotate_left
  · have hb : ((ll : Int) != (p.len : Int)) = true:=by simp;omega
    have HE : Kept (false = r):=kp (by
      rw [← HR.out]
      cases e : Mu.shaped p ls with
      | false => rfl
      | true => have h1:=(Mu.shaped_iff.1 e).1;rw [HLl.out] at h1;exact absurd h1 hlen)
    clear hlen
    go_wp2_with (first
      | ((with_reducible refine j4 rfl 24 (.tmp 0) rfl (pgC p) rfl ?_);intro g1 w1 hg1 hk1 hw1;have HW1:=kp hw1;obtain ⟨hc0,hc1,hc2,hc3⟩:=j8 hk1;clear hg1 hk1 hw1))
    go_ret
    exact ⟨jG HE.out,HW1.out⟩
  subst hlen
  have hb : ((p.len : Int) != (p.len : Int)) = false:=by simp
  go_wp2_with (first
    | ((with_reducible refine j4 rfl 24 (.tmp 0) rfl (pgC p) rfl ?_);intro g1 w1 hg1 hk1 hw1;have HW1:=kp hw1;obtain ⟨hc0,hc1,hc2,hc3⟩:=j8 hk1;have HP1:=kp (HP.out.below (hw1.mono hB));have HL1:=kp (HL.out.below (hw1.mono hB));clear hg1 hk1 hw1))
  go_loop [16] (fun v16 => ∃ i : Nat,i ≤ p.len ∧ v16 = .int .i64 i ∧ ∀ f,f < i → Mu.shapedAt p ls f = true) (fun v16 => p.len - (intOf v16).toNat)
  case atStart => exact ⟨0,by omega,rfl,fun f hf => by omega⟩
  case round =>
    obtain ⟨i,hi,rfl,hall⟩:=hrel
    have HAll:=kp hall
    clear hall hc0 hc1 hc2 hc3
    by_cases hlt : i < p.len
    · obtain ⟨ad,fn,e0,_,hfn,hfok,hcf⟩:=HP1.out.fn hlt
      obtain ⟨ad1,x,e1,_,hx,hxok,hd0,hd1,hd2,hd5⟩:=HL1.out.get hlt
      have hfl:=hfok.lc;have hfm:=hfok.cm
      unfold maxLen at hfm
      have hh:=hxok.held.lc;have hhm:=hxok.held.cm
      have hv:=hxok.live.lc;have hvm:=hxok.live.cm
      unfold maxLen at hhm hvm
      have HAt:=kp (q9 hx hfn)
      clear hfn hfok hx hxok
      subst e1
      rw [e0]
      by_cases h1 : x.held.len = fn.len
      · have h1b : ((x.held.len : Int) != (fn.len : Int)) = false:=by rw [h1];simp
        by_cases h2 : x.live.len = fn.len
        · have h2b : ((x.live.len : Int) != (fn.len : Int)) = false:=by rw [h2];simp
          have HOk : Kept (Mu.shapedAt p ls i = true):=kp (by rw [HAt.out,h1,h2];simp)
          clear h1 h2
          go_wp2
          go_round
          case rel => exact ⟨i + 1,by omega,by go_num,fun f hf => by
            by_cases e : f = i
            · subst e;exact HOk.out
            · exact HAll.out f (by omega)⟩
          case measure => simp [intOf];omega
        · have h2b : ((x.live.len : Int) != (fn.len : Int)) = true:=by simp;omega
          have HE : Kept (false = r):=kp (by rw [← HR.out];exact (yB hlt (by rw [HAt.out];simp [h2])).symm)
          clear h1 h2
          go_wp2
          go_ret
          exact ⟨jG HE.out,HW1.out⟩
      · have h1b : ((x.held.len : Int) != (fn.len : Int)) = true:=by simp;omega
        have HE : Kept (false = r):=kp (by rw [← HR.out];exact (yB hlt (by rw [HAt.out];simp [h1])).symm)
        clear h1
        go_wp2
        go_ret
        exact ⟨jG HE.out,HW1.out⟩
    · have HE : Kept (true = r):=kp (by rw [← HR.out];exact (Mu.shaped_iff.2 ⟨HLl.out,fun f hf => HAll.out f (by omega)⟩).symm)
      have hge : p.len ≤ i:=by omega
      clear hlt
      go_wp2
      go_ret
      exact ⟨jG HE.out,HW1.out⟩
structure Clm where
  A : Option Addr
  ll : Nat
  lc : Nat
  ls : List Sc
  m : Nat
  lost : Int
def clmC (c : Clm) : List Value:=[.slice c.A c.ll c.lc,.int .u32 (c.m : Int),.int .i64 c.lost]
def clmA (c : Clm) : Value:=.agg #[.slice c.A c.ll c.lc,.int .u32 (c.m : Int),.int .i64 c.lost]
theorem JP (c : Clm) : clmA c = .agg (clmC c).toArray:=rfl
theorem qU : (Tryd.prog.info? 70).map (·.size) = some 3:=by kernel_rfl
theorem lL {w : World} {g : Nat} {t : TypeId} {c : Clm} (h : Blk w g t (clmC c)) :
    w.cell? ⟨g,0,none⟩ = some (.slice c.A c.ll c.lc) ∧ w.cell? ⟨g,1,none⟩ = some (.int .u32 (c.m : Int)) ∧ w.cell? ⟨g,2,none⟩ = some (.int .i64 c.lost):=⟨h.cell 0,h.cell 1,h.cell 2⟩
theorem clm_ones (c : Clm) : ∀ u ∈ clmC c,u.oneCell' = true:=by
  intro u hu
  simp only [clmC,List.mem_cons,List.not_mem_nil,or_false] at hu
  rcases hu with h | h | h <;> subst h <;> rfl
structure Clm.Ok (c : Clm) (w : World) (B : Nat) : Prop where
  secs : Secs w B c.A c.ll c.ls
  lc : c.ll ≤ c.lc
  lm : c.lc ≤ maxLen
  m : c.m < 4294967296
  lost : I64 c.lost
theorem Clm.Ok.below {c : Clm} {w w' : World} {B : Nat} (h : c.Ok w B) (hb : Below B w w') : c.Ok w' B:=⟨h.secs.below hb,h.lc,h.lm,h.m,h.lost⟩
theorem Clm.Ok.more {c : Clm} {w : World} {B B2 : Nat} (h : c.Ok w B) (hB : B ≤ B2) : c.Ok w B2:=⟨h.secs.more hB,h.lc,h.lm,h.m,h.lost⟩
def CallFit16 (ll : Nat) (n : Nd) : Prop:=n.kind = 7 ∨ n.kind = 5 → ∃ k : Nat,n.arg = (k : Int) ∧ k < ll
theorem Secs.get16 {w : World} {B : Nat} {A : Option Addr} {n : Nat} {l : List Sc} (h : Secs w B A n l) {k : Nat} (hk : k < n) :
    ∃ ad x,A = some ad ∧ ad.block < B ∧ l[k]? = some x ∧ x.Ok w B ∧ w.cell? ⟨(ad.add (k * 6)).block,(ad.add (k * 6)).off + 3,none⟩ = some (.int .u32 (x.le : Int)) ∧
      w.cell? ⟨(ad.add (k * 6)).block,(ad.add (k * 6)).off + 4,none⟩ = some (.int .u32 (x.lx : Int)) ∧ w.cell? ⟨(ad.add (k * 6)).block,(ad.add (k * 6)).off + 5,none⟩ = some (.slice x.live.A x.live.len x.live.cap):=by
  obtain ⟨ad,x,e,hb,hx,hc0,hc⟩:=h.1.field hk
  exact ⟨ad,x,e,hb,hx,h.2 x (List.mem_of_getElem? hx),hc 3 (by omega) (by omega),hc 4 (by omega) (by omega),hc 5 (by omega) (by omega)⟩
theorem XO {w : World} {B : Nat} {A : Option Addr} {k : Nat} {ls : List Sc} {n : Nd} (hc : Secs w B A k ls) : Ma.exit_ ls n < 4294967296:=by
  unfold Ma.exit_
  split
  · rw [List.getD_eq_getElem?_getD]
    cases e : ls[n.arg.toNat]? with
    | none => exact (by decide : 0 < 4294967296)
    | some x => exact (hc.2 x (List.mem_of_getElem? e)).lx
  · decide
set_option maxRecDepth 100000 in
set_option maxHeartbeats 3200000 in
theorem vT (B : Nat) (c : Clm) (n : Nd) (hn : n.Ok) (h : Nat) (hh : h < 4294967296) (w : World) (hc : c.Ok w B) (hB : B ≤ w.heap.size) (hf : CallFit16 c.ll n) (r : Nat) (hr : Ma.beh c.m c.lost c.ls n h = r) :
    Calls Tryd.prog 63 #[clmA c,ndA n,.int .u32 (h : Int)] w fun e w' => e = .returned (.int .u32 (r : Int)) ∧ Below w.heap.size w w':=by
  have HC:=kp hc;have HR:=kp hr;have HN:=kp hn;have HNr:=kp hn.arg;have HM:=kp hc.m;have HLo:=kp hc.lost
  have hlc:=hc.lc;have hlm:=hc.lm
  unfold maxLen at hlm
  obtain ⟨ex,hexe⟩ : ∃ q,Ma.exit_ c.ls n = q:=⟨_,rfl⟩
  have hex : ex < 4294967296:=by rw [← hexe];exact XO hc.secs
  obtain ⟨bb,hbb⟩ : ∃ q,S.has c.m n.arg = q:=⟨_,rfl⟩
  have HBb:=kp hbb
  have HB : Kept (Ma.behind n h ex c.lost bb = r):=kp (by rw [← hr,← hexe,← hbb];rfl)
  clear hc hr hn hbb
  rw [JP,show ndA n = .agg (ndC n).toArray from rfl]
  go_enter Tryd.func63,Tryd.ntmps63
  by_cases h7 : n.kind = 7
  · have hk : (n.kind == 7) = true:=by simpa using h7
    obtain ⟨k,hka,hkl⟩:=hf (.inl h7)
    obtain ⟨ad,x,e0,hb0,hx,hxok,hd3,hd4,hd5⟩:=HC.out.secs.get16 hkl
    have HD4:=kp hd4
    have hx2 : c.ls.getD k default = x:=by rw [List.getD_eq_getElem?_getD,hx];rfl
    have hxe : x.lx = ex:=by rw [← hexe];unfold Ma.exit_;rw [if_pos h7,hka,Int.toNat_natCast,hx2]
    rw [hxe] at HD4
    have hkll : (k : Int) < (c.ll : Int):=by omega
    have HE0:=kp e0;have HKa:=kp hka
    clear h7 hx hxok hx2 hka e0 hd3 hd4 hd5 hxe hexe
    go_wp2_with (first
      | ((with_reducible refine j4 rfl 70 (.tmp 0) rfl (clmC c) rfl ?_);intro g1 w1 hg1 hk1 hw1;have HK1:=kp hk1;have HW1:=kp hw1;have hs1:=hw1.size;clear hg1 hk1 hw1)
      | ((with_reducible refine j4 rfl 66 (.tmp 1) rfl (ndC n) rfl ?_);intro g2 w2 hg2 hk2 hw2;have HK2:=kp hk2;have HKc:=kp (HK1.out.below hw2 HK1.out.lt);have HW2:=kp (HW1.out.trans (hw2.mono hs1));obtain ⟨hc0,hc1,hc2,hc3⟩:=jB hk2;obtain ⟨hu0,hu1,hu2⟩:=lL HKc.out;rw [HE0.out] at hu0;rw [HKa.out] at hc1;have hd4:=(HW2.out.cell (p:=⟨(ad.add (k * 6)).block,(ad.add (k * 6)).off + 4,none⟩) (by show (ad.add (k * 6)).block < _;rw [add_block];omega)).trans HD4.out;clear hg2 hk2 hw2))
    clear hd4 hu0 hu1 hu2 hc0 hc1 hc2 hc3
    apply jR (.is (ndA n) :: .is _ :: .is _ :: .is _ :: .is (.int .i64 c.lost) :: .is _ :: .is (.int .u32 (c.m : Int)) :: .is _ :: .is (.int .i64 n.arg) :: .is (.bool bb) :: .is (.int .u32 (r : Int)) :: .is _ :: [])
      [[],[],[],[],[(3,21)],[],[(5,23)],[],[(7,25)],[(6,24),(8,26)],[(0,18),(1,19),(2,20),(4,22),(9,27)],[(10,28)]]
      [(0,18),(1,19),(2,20),(3,21),(4,22),(5,23),(6,24),(7,25),(8,26),(9,27),(10,28),(11,6)] (by kernel_rfl) (by kernel_rfl)
    case hob =>
      refine ⟨?o0,?o1,?o2,?o3,?o4,?o5,?o6,?o7,?o8,?o9,?o10,?o11,trivial⟩
      case o0 =>
        intro W hW;change wpList _ _ _ _ _ _
        go_must (refine j6 rfl 66 (.tmp 4) rfl g2 rfl _ (ndC n) _ (HK2.out.below hW HK2.out.lt) Tryd.underlying66 rfl jD ?_)
        go_wp2;exact j3 rfl rfl rfl
      case o1 => intro W hW;change wpList _ _ _ _ _ _;go_wp2;exact j3 rfl rfl rfl
      case o2 => intro W hW;change wpList _ _ _ _ _ _;go_wp2;exact j3 rfl rfl rfl
      case o3 => intro W hW;change wpList _ _ _ _ _ _;go_wp2;exact j3 rfl rfl rfl
      case o4 =>
        intro W hW;rintro _ rfl;change wpList _ _ _ _ _ _
        have hq:=(HKc.out.below hW HKc.out.lt).cell 2
        simp only [clmC,List.getElem?_cons_zero,List.getElem?_cons_succ] at hq
        go_wp2;exact j3 rfl rfl rfl
      case o5 => intro W hW;change wpList _ _ _ _ _ _;go_wp2;exact j3 rfl rfl rfl
      case o6 =>
        intro W hW;rintro _ rfl;change wpList _ _ _ _ _ _
        have hq:=(HKc.out.below hW HKc.out.lt).cell 1
        simp only [clmC,List.getElem?_cons_zero,List.getElem?_cons_succ] at hq
        go_wp2;exact j3 rfl rfl rfl
      case o7 => intro W hW;change wpList _ _ _ _ _ _;go_wp2;exact j3 rfl rfl rfl
      case o8 =>
        intro W hW;rintro _ rfl;change wpList _ _ _ _ _ _
        have hq:=(HK2.out.below hW HK2.out.lt).cell 1
        simp only [ndC,List.getElem?_cons_zero,List.getElem?_cons_succ] at hq
        go_wp2;exact j3 rfl rfl rfl
      case o9 =>
        intro W hW;rintro _ rfl;rintro _ rfl;change wpList _ _ _ _ _ _
        go_wp2_with fail
        refine (yJ c.m HM.out n.arg HNr.out bb HBb.out W).mono ?_
        rintro e w9 ⟨rfl,rfl⟩
        go_wp2
        exact j3 rfl rfl rfl
      case o10 =>
        intro W hW;rintro _ rfl;rintro _ rfl;rintro _ rfl;rintro _ rfl;rintro _ rfl;change wpList _ _ _ _ _ _
        go_wp2_with fail
        refine (yW n HN.out h ex hh c.lost HLo.out bb r HB.out W).mono ?_
        rintro e w2 ⟨rfl,hb2⟩
        have HB2:=kp hb2;clear hb2
        go_wp2
        exact jE rfl rfl rfl HB2.out rfl
      case o11 => intro W hW;rintro _ rfl;change wpList _ _ _ _ _ _;go_wp2;exact j3 rfl rfl rfl
    case hend =>
      intro W hW;rintro _ rfl;rintro _ rfl;rintro _ rfl;rintro _ rfl;rintro _ rfl;rintro _ rfl;rintro _ rfl;rintro _ rfl;rintro _ rfl;rintro _ rfl;rintro _ rfl;rintro _ rfl
      simp only [given,jI,List.set]
      have HD:=kp (HW2.out.trans (hW.mono HW2.out.size))
      clear hW
      go_wp2
      go_ret
      exact ⟨rfl,HD.out⟩
  · have hk : (n.kind == 7) = false:=by simpa using h7
    have hxe : 0 = ex:=by rw [← hexe];unfold Ma.exit_;rw [if_neg h7]
    subst hxe
    clear h7 hexe
    go_wp2_with (first
      | ((with_reducible refine j4 rfl 70 (.tmp 0) rfl (clmC c) rfl ?_);intro g1 w1 hg1 hk1 hw1;have HK1:=kp hk1;have HW1:=kp hw1;have hs1:=hw1.size;clear hg1 hk1 hw1)
      | ((with_reducible refine j4 rfl 66 (.tmp 1) rfl (ndC n) rfl ?_);intro g2 w2 hg2 hk2 hw2;have HK2:=kp hk2;have HKc:=kp (HK1.out.below hw2 HK1.out.lt);have HW2:=kp (HW1.out.trans (hw2.mono hs1));obtain ⟨hc0,hc1,hc2,hc3⟩:=jB hk2;obtain ⟨hu0,hu1,hu2⟩:=lL HKc.out;clear hg2 hk2 hw2))
    clear hu0 hu1 hu2 hc0 hc1 hc2 hc3
    apply jR (.is (ndA n) :: .is _ :: .is _ :: .is _ :: .is (.int .i64 c.lost) :: .is _ :: .is (.int .u32 (c.m : Int)) :: .is _ :: .is (.int .i64 n.arg) :: .is (.bool bb) :: .is (.int .u32 (r : Int)) :: .is _ :: [])
      [[],[],[],[],[(3,21)],[],[(5,23)],[],[(7,25)],[(6,24),(8,26)],[(0,18),(1,19),(2,20),(4,22),(9,27)],[(10,28)]]
      [(0,18),(1,19),(2,20),(3,21),(4,22),(5,23),(6,24),(7,25),(8,26),(9,27),(10,28),(11,6)] (by kernel_rfl) (by kernel_rfl)
    case hob =>
      refine ⟨?o0,?o1,?o2,?o3,?o4,?o5,?o6,?o7,?o8,?o9,?o10,?o11,trivial⟩
      case o0 =>
        intro W hW;change wpList _ _ _ _ _ _
        go_must (refine j6 rfl 66 (.tmp 4) rfl g2 rfl _ (ndC n) _ (HK2.out.below hW HK2.out.lt) Tryd.underlying66 rfl jD ?_)
        go_wp2;exact j3 rfl rfl rfl
      case o1 => intro W hW;change wpList _ _ _ _ _ _;go_wp2;exact j3 rfl rfl rfl
      case o2 => intro W hW;change wpList _ _ _ _ _ _;go_wp2;exact j3 rfl rfl rfl
      case o3 => intro W hW;change wpList _ _ _ _ _ _;go_wp2;exact j3 rfl rfl rfl
      case o4 =>
        intro W hW;rintro _ rfl;change wpList _ _ _ _ _ _
        have hq:=(HKc.out.below hW HKc.out.lt).cell 2
        simp only [clmC,List.getElem?_cons_zero,List.getElem?_cons_succ] at hq
        go_wp2;exact j3 rfl rfl rfl
      case o5 => intro W hW;change wpList _ _ _ _ _ _;go_wp2;exact j3 rfl rfl rfl
      case o6 =>
        intro W hW;rintro _ rfl;change wpList _ _ _ _ _ _
        have hq:=(HKc.out.below hW HKc.out.lt).cell 1
        simp only [clmC,List.getElem?_cons_zero,List.getElem?_cons_succ] at hq
        go_wp2;exact j3 rfl rfl rfl
      case o7 => intro W hW;change wpList _ _ _ _ _ _;go_wp2;exact j3 rfl rfl rfl
      case o8 =>
        intro W hW;rintro _ rfl;change wpList _ _ _ _ _ _
        have hq:=(HK2.out.below hW HK2.out.lt).cell 1
        simp only [ndC,List.getElem?_cons_zero,List.getElem?_cons_succ] at hq
        go_wp2;exact j3 rfl rfl rfl
      case o9 =>
        intro W hW;rintro _ rfl;rintro _ rfl;change wpList _ _ _ _ _ _
        go_wp2_with fail
        refine (yJ c.m HM.out n.arg HNr.out bb HBb.out W).mono ?_
        rintro e w9 ⟨rfl,rfl⟩
        go_wp2
        exact j3 rfl rfl rfl
      case o10 =>
        intro W hW;rintro _ rfl;rintro _ rfl;rintro _ rfl;rintro _ rfl;rintro _ rfl;change wpList _ _ _ _ _ _
        go_wp2_with fail
        refine (yW n HN.out h 0 hh c.lost HLo.out bb r HB.out W).mono ?_
        rintro e w2 ⟨rfl,hb2⟩
        have HB2:=kp hb2;clear hb2
        go_wp2
        exact jE rfl rfl rfl HB2.out rfl
      case o11 => intro W hW;rintro _ rfl;change wpList _ _ _ _ _ _;go_wp2;exact j3 rfl rfl rfl
    case hend =>
      intro W hW;rintro _ rfl;rintro _ rfl;rintro _ rfl;rintro _ rfl;rintro _ rfl;rintro _ rfl;rintro _ rfl;rintro _ rfl;rintro _ rfl;rintro _ rfl;rintro _ rfl;rintro _ rfl
      simp only [given,jI,List.set]
      have HD:=kp (HW2.out.trans (hW.mono HW2.out.size))
      clear hW
      go_wp2
      go_ret
      exact ⟨rfl,HD.out⟩
def SuccFit (k : Nat) (n : Nd) : Prop:=∀ to ∈ Q.succ n,∃ j : Nat,to = (j : Int) ∧ j < k
theorem XE : (Tryd.prog.info? 56).map (·.zero) = some (some (.agg (scC default).toArray)):=by kernel_rfl
theorem lY : (Tryd.prog.info? 66).map (·.zero) = some (some (.agg (ndC ⟨0,0,0,0⟩).toArray)):=by kernel_rfl
theorem xS (a : Addr) : a.add 0 = a:=by unfold Addr.add;rw [if_pos rfl]
theorem Secs.getA {w : World} {B : Nat} {A : Option Addr} {n : Nat} {l : List Sc} (h : Secs w B A n l) {k : Nat} (hk : k < n) :
    ∃ ad x,A = some ad ∧ ad.block < B ∧ l[k]? = some x ∧ x.Ok w B ∧ w.cell? (ad.add (k * 6)) = some (.int .u32 (x.en : Int)) ∧ w.cell? ⟨(ad.add (k * 6)).block,(ad.add (k * 6)).off + 1,none⟩ = some (.int .u32 (x.ex : Int)) ∧
      w.cell? ⟨(ad.add (k * 6)).block,(ad.add (k * 6)).off + 2,none⟩ = some (.slice x.held.A x.held.len x.held.cap) ∧ w.cell? ⟨(ad.add (k * 6)).block,(ad.add (k * 6)).off + 3,none⟩ = some (.int .u32 (x.le : Int)) ∧
      w.cell? ⟨(ad.add (k * 6)).block,(ad.add (k * 6)).off + 4,none⟩ = some (.int .u32 (x.lx : Int)) ∧ w.cell? ⟨(ad.add (k * 6)).block,(ad.add (k * 6)).off + 5,none⟩ = some (.slice x.live.A x.live.len x.live.cap):=by
  obtain ⟨ad,x,e,hb,hx,hc0,hc⟩:=h.1.field hk
  exact ⟨ad,x,e,hb,hx,h.2 x (List.mem_of_getElem? hx),hc0 (by omega),hc 1 (by omega) (by omega),hc 2 (by omega) (by omega),hc 3 (by omega) (by omega),hc 4 (by omega) (by omega),hc 5 (by omega) (by omega)⟩
def ftC (a b d : Int) : List Value:=[.int .i64 a,.int .i64 b,.int .i64 d]
def ftA (x : Int × Int × Nat) : Value:=.agg #[.int .i64 x.1,.int .i64 x.2.1,.int .i64 (x.2.2 : Int)]
theorem jT : (Tryd.prog.info? 30).map (·.size) = some 3:=by kernel_rfl
theorem lT : (Tryd.prog.info? 30).map (·.zero) = some (some (.agg (ftC 0 0 0).toArray)):=by kernel_rfl
theorem l5 (a b d : Int) : ∀ u ∈ ftC a b d,u.oneCell' = true:=by
  intro u hu
  simp only [ftC,List.mem_cons,List.not_mem_nil,or_false] at hu
  rcases hu with h | h | h <;> subst h <;> rfl
theorem l2 {w : World} {g : Nat} {t : TypeId} {a b d : Int} (h : Blk w g t (ftC a b d)) : w.cell? ⟨g,0,none⟩ = some (.int .i64 a) ∧ w.cell? ⟨g,1,none⟩ = some (.int .i64 b) ∧ w.cell? ⟨g,2,none⟩ = some (.int .i64 d):=⟨h.cell 0,h.cell 1,h.cell 2⟩
theorem qD {P : Program} {fn : Func} {p : Tmp} {a : Nat} {ty : TypeId} (h : fn.results = #[.cell p ty,.tmp a]) (tmps : Array Value) (w : World) (g : Nat) (t : TypeId) (cs : List Value) (d : TypeDesc) (va : Value)
    (hp : tmps.getD p undef = .pointer (some ⟨g,0,none⟩)) (ha : tmps.getD a undef = va) (hg : Blk w g t cs)
    (hu : P.underlying ty = some d) (hd : (match d with | .struct _ | .array _ _ => true | _ => false) = true) (hi : (P.info? ty).map (·.size) = some cs.length) :
    (results fn tmps).run P w = .ok (.tuple #[.agg cs.toArray,va]) w:=by
  subst ha
  have hp' : tmps[p]?.getD undef = .pointer (some ⟨g,0,none⟩):=by simpa using hp
  simp [results,h,hp',asAddr,run_loadVar_row w g t ty cs.toArray (0,0) d hg hu hd (by simpa using hi)]
theorem Fn.Ok.more15 {f : Fn} {w : World} {B B2 : Nat} (h : f.Ok w B) (hB : B ≤ B2) : f.Ok w B2:=⟨⟨h.nodes.1.more hB,h.nodes.2⟩,h.lc,h.cm,h.nil⟩
end Go.Proofs.YtoekiejipdabmaaDoor
