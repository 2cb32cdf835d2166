/- Whom functions come to by calls, as the program makes it: its innermost loop, walked. -/
import Derived.Test.YtoekiejipdabmaaDoorPk3
import Derived.Test.YtoekiejipdabmaaDoorProgRef5
import Derived.Test.YtoekiejipdabmaaDoorPk1
import Derived.BigQuiet
import Derived.Deep.QuietTactic
import Derived.Deep.RegionWith
namespace Go.Proofs.YtoekiejipdabmaaDoor
open Go.RowKit
def relC (L : List Bool) : List Value:=L.map Value.bool
theorem uC : (Tryd.prog.info? 123).map (·.zero) = some (some (.agg (relC (List.replicate 256 false)).toArray)):=by kernel_rfl
theorem zD : (Tryd.prog.info? 123).map (·.size) = some 256:=by kernel_rfl
theorem L7 (L : List Bool) : ∀ u ∈ relC L,u.oneCell' = true:=by
  intro u hu
  obtain ⟨b,_,rfl⟩:=List.mem_map.1 hu
  rfl
theorem qH (L : List Bool) : (relC L).length = L.length:=List.length_map _
theorem lR {L : List Bool} {k : Nat} {v : Bool} (h : L[k]? = some v) : (relC L)[k]? = some (.bool v):=by unfold relC;rw [List.getElem?_map,h];rfl
theorem zE (L : List Bool) (k : Nat) (v : Bool) : (relC L).set k (.bool v) = relC (L.set k v):=by unfold relC;rw [List.map_set]
theorem ret_rel {L : List Bool} {w w' : World} {R : Nat → Nat → Prop} (hL : L.length = 256) (he : ∀ x y,x < 16 → y < 16 → (Q.ent L x y ↔ Q.Reach R 16 x y)) (hb : Below w.heap.size w w') :
    ∃ L' : List Bool,Ending.returned (.agg (relC L).toArray) = Ending.returned (.agg (relC L').toArray) ∧ L'.length = 256 ∧ (∀ x y,x < 16 → y < 16 → (Q.ent L' x y ↔ Q.Reach R 16 x y)) ∧ Below w.heap.size w w':=⟨L,rfl,hL,he,hb⟩
theorem calls_at {p : Pg} {f : Nat} {fn : Fn} (h : p.fns[f]? = some fn) (y : Nat) : Q.callsTo fn.nodes y ↔ Q.calls p f y:=by
  unfold Q.callsTo Q.calls
  constructor
  · rintro ⟨nd,h1,h2⟩
    exact ⟨fn,h,nd,h1,h2⟩
  · rintro ⟨f',h1,nd,h2,h3⟩
    rw [h] at h1
    cases h1
    exact ⟨nd,h2,h3⟩
theorem jC {P : Program} {ops : Array Oper} {o : Oper} {a : Act} {D : List Deferred} {W : World} (d : Nat) (ho : o.dst = some d) (hw : Region.wanted o (yielded ops a.tmps) = false) (hd : a.defers = D) (hlt : Nat.ble (d + 1) a.tmps.size = true) : wpList P ops (PartPost D W o (Fact.is undef)) [o] a W:=by
  unfold wpList
  rw [if_neg (by rw [hw];exact Bool.false_ne_true)]
  show PartPost D W o (Fact.is undef) .normal (a.put o.dst undef) W
  refine ⟨(xL _ _ _).trans hd,Below.refl _ _,?_⟩
  show slotOf o (a.put o.dst undef) = undef
  have:=qK a d d undef
  rw [if_pos ⟨rfl,Nat.le_of_ble_eq_true hlt⟩] at this
  simp [slotOf,ho,Array.getD_eq_getD_getElem?,this]
def loopsOf : Code → List Code
  | .loop c => c :: loopsOf c
  | .seq a b => loopsOf a ++ loopsOf b
  | .block _ c => loopsOf c
  | .scope c => loopsOf c
  | .cond _ a b => loopsOf a ++ loopsOf b
  | _ => []
noncomputable def loopBody (f : Func) (i : Nat) : Code:=(loopsOf (f.body.getD .skip)).getD i .skip
set_option maxRecDepth 1000000 in
set_option maxHeartbeats 4000000 in
theorem Y5 (R : Nat → Nat → Prop) (B : Nat) (g3 k a : Nat) (hk16 : k < 16) (ha16 : a < 16) (L0 : List Bool) (hL0 : L0.length = 256) (w0 w : World) (hclo0 : Q.Clo R 16 k a 0 (Q.ent L0)) (hk0 : Blk w g3 123 (relC L0)) (hg3 : B ≤ g3) (hb0 : Below B w0 w) {Q0 : Exit → Act → World → Prop} (p0 p1 p2 p4 p5 p6 p7 p10 p11 p12 p13 p14 p15 p16 p17 p18 p19 p20 p21 p22 p23 p24 p25 p26 p27 p28 p29 p30 p31 p32 p33 p34 p35 p36 p37 p38 p39 p40 p42 p43 p44 p45 p46 p47 p48 p49 p50 p51 p52 p53 p54 p55 p56 p57 p58 p59 p60 p61 p62 p63 p64 p65 p66 p67 p68 p69 p70 : Value)
    (hexit : ∀ (x10 x41 x42 x43 x44 x45 x46 x47 x48 x49 x50 x51 x52 x53 x54 x55 x56 x57 x58 x59 x60 x61 x62 x63 x64 x65 x66 x67 : Value) (W : World),∀ L : List Bool,L.length = 256 → Q.Clo R 16 k (a + 1) 0 (Q.ent L) → Blk W g3 123 (relC L) → Below B w0 W → Q0 (.exit 8) ⟨List.toArray (p0 :: p1 :: p2 :: .pointer (some ⟨g3,0,none⟩) :: p4 :: p5 :: p6 :: p7 :: .int .i64 (k : Int) :: .int .i64 (a : Int) :: x10 :: p11 :: p12 :: p13 :: p14 :: p15 :: p16 :: p17 :: p18 :: p19 :: p20 :: p21 :: p22 :: p23 :: p24 :: p25 :: p26 :: p27 :: p28 :: p29 :: p30 :: p31 :: p32 :: p33 :: p34 :: p35 :: p36 :: p37 :: p38 :: p39 :: p40 :: x41 :: x42 :: x43 :: x44 :: x45 :: x46 :: x47 :: x48 :: x49 :: x50 :: x51 :: x52 :: x53 :: x54 :: x55 :: x56 :: x57 :: x58 :: x59 :: x60 :: x61 :: x62 :: x63 :: x64 :: x65 :: x66 :: x67 :: p68 :: p69 :: p70 :: []),[]⟩ W) :
    Code.wp Tryd.prog (Code.loop (loopBody Tryd.f67 4)) Q0 ⟨List.toArray (p0 :: p1 :: p2 :: .pointer (some ⟨g3,0,none⟩) :: p4 :: p5 :: p6 :: p7 :: .int .i64 (k : Int) :: .int .i64 (a : Int) :: p10 :: p11 :: p12 :: p13 :: p14 :: p15 :: p16 :: p17 :: p18 :: p19 :: p20 :: p21 :: p22 :: p23 :: p24 :: p25 :: p26 :: p27 :: p28 :: p29 :: p30 :: p31 :: p32 :: p33 :: p34 :: p35 :: p36 :: p37 :: p38 :: p39 :: p40 :: .int .i64 0 :: p42 :: p43 :: p44 :: p45 :: p46 :: p47 :: p48 :: p49 :: p50 :: p51 :: p52 :: p53 :: p54 :: p55 :: p56 :: p57 :: p58 :: p59 :: p60 :: p61 :: p62 :: p63 :: p64 :: p65 :: p66 :: p67 :: p68 :: p69 :: p70 :: []),[]⟩ w:=by
  have HX:=kp hexit;clear hexit
  conv => arg 2;arg 1;whnf
  have HK0:=kp hk0;have HClo0:=kp hclo0;have HG3:=kp hg3;have HB0:=kp hb0
  clear hk0 hclo0 hg3 hb0
  go_loopw [41] (fun v41 wq => ∃ (b : Nat) (L : List Bool),b ≤ 16 ∧ v41 = .int .i64 b ∧ L.length = 256 ∧ Q.Clo R 16 k a b (Q.ent L) ∧ Blk wq g3 123 (relC L) ∧ Below B w0 wq) (fun v41 _ => 16 - (intOf v41).toNat)
  case atStart => exact ⟨0,L0,by omega,rfl,hL0,HClo0.out,HK0.out,HB0.out⟩
  case round =>
    obtain ⟨b,L3,hb,rfl,hL,hclo,hkb,hbl⟩:=hrel
    have HClo:=kp hclo;have HK:=kp hkb;have HBL:=kp hbl;have HL:=kp hL
    have HBS : Kept (B ≤ wr.heap.size):=kp (Nat.le_trans HG3.out (Nat.le_of_lt hkb.lt))
    clear hclo hkb hbl HClo0 HK0 HB0
    by_cases hb16 : b < 16
    · obtain ⟨v0,hv0,he0⟩:=Q.ent_at hL ha16 hb16
      obtain ⟨v1,hv1,he1⟩:=Q.ent_at hL ha16 hk16
      obtain ⟨v2,hv2,he2⟩:=Q.ent_at hL hk16 hb16
      have HV0:=kp hv0;have HV1:=kp hv1;have HV2:=kp hv2
      have HStep : Kept (∀ v : Bool,(v = true ↔ v0 = true ∨ (v1 = true ∧ v2 = true)) → Q.Clo R 16 k a (b + 1) (Q.ent (L3.set (a * 16 + b) v))):=kp fun v hv =>
        HClo.out.step hk16 ha16 hb16 fun x y hx hy => by
          rw [Q.ent_set hL ha16 hb16 v x y hx hy]
          by_cases e : x = a ∧ y = b
          · rw [if_pos e,hv]
            obtain ⟨rfl,rfl⟩:=e
            rw [he0,he1,he2]
            constructor
            · rintro (h | h)
              · exact .inl h
              · exact .inr ⟨rfl,rfl,h⟩
            · rintro (h | ⟨_,_,h⟩)
              · exact .inl h
              · exact .inr h
          · rw [if_neg e]
            constructor
            · exact .inl
            · rintro (h | ⟨h1,h2,_⟩)
              · exact h
              · exact absurd ⟨h1,h2⟩ e
      have hai : (a : Int) < (16 : Int):=by omega
      have hbi : (b : Int) < (16 : Int):=by omega
      have hki : (k : Int) < (16 : Int):=by omega
      have ha0 : (0 : Int) ≤ (a : Int):=by omega
      have hb0 : (0 : Int) ≤ (b : Int):=by omega
      have hk0 : (0 : Int) ≤ (k : Int):=by omega
      clear he0 he1 he2 hv0 hv1 hv2 hL
      cases v0
      · cases v1
        · go_wp2
          apply jJ 23 (.is _ :: .is _ :: .is _ :: .is _ :: .is _ :: .is _ :: .is _ :: .is _ :: .is _ :: .is _ :: .is _ :: .is _ :: .is _ :: .is _ :: .is undef :: .is undef :: .is undef :: .is undef :: .is undef :: .is _ :: .is _ :: .is _ :: .is _ :: [])
            [[],[],[],[],[(2,46)],[(4,48),(3,47)],[(5,49)],[(6,50)],[(7,51)],[(7,51)],[(8,52),(7,51)],[(10,54),(9,53),(7,51)],[(11,55),(7,51)],[(12,56),(7,51)],[(13,57)],[(13,57)],[(14,58),(13,57)],[(16,60),(15,59),(13,57)],[(17,61),(13,57)],[(13,57),(18,62),(7,51)],[(7,51),(19,63)],[(0,44)],[(21,65),(1,45)],[(22,66),(20,64)]]
            [(0,44),(1,45),(2,46),(3,47),(4,48),(5,49),(6,50),(7,51),(8,52),(9,53),(10,54),(11,55),(12,56),(13,57),(14,58),(15,59),(16,60),(17,61),(18,62),(19,63),(20,64),(21,65),(22,66)] (by kernel_rfl) (by kernel_rfl) (by kernel_rfl) (by kernel_rfl) (by kernel_rfl)
          case hob =>
            refine ⟨?o0,?o1,?o2,?o3,?o4,?o5,?o6,?o7,?o8,?o9,?o10,?o11,?o12,?o13,?o14,?o15,?o16,?o17,?o18,?o19,?o20,?o21,?o22,trivial⟩
            case o0 => intro W hW;change wpList _ _ _ _ _ _;go_wp2;exact j3 rfl rfl rfl
            case o1 => intro W hW;change wpList _ _ _ _ _ _;go_wp2;exact j3 rfl rfl rfl
            case o2 => intro W hW;change wpList _ _ _ _ _ _;go_wp2;exact j3 rfl rfl rfl
            case o3 => intro W hW;change wpList _ _ _ _ _ _;go_wp2;exact j3 rfl rfl rfl
            case o4 => intro W hW;rintro _ rfl;change wpList _ _ _ _ _ _;go_wp2;exact j3 rfl rfl rfl
            case o5 => intro W hW;rintro _ rfl;rintro _ rfl;change wpList _ _ _ _ _ _;go_wp2;exact j3 rfl rfl rfl
            case o6 =>
              intro W hW;rintro _ rfl;change wpList _ _ _ _ _ _
              have hc:=((HK.out.below hW HK.out.lt).cell (a * 16 + b)).trans (lR HV0.out)
              go_wp2;exact j3 rfl rfl rfl
            case o7 => intro W hW;rintro _ rfl;change wpList _ _ _ _ _ _;go_wp2;exact j3 rfl rfl rfl
            case o8 => intro W hW;rintro _ rfl;change wpList _ _ _ _ _ _;go_wp2;exact j3 rfl rfl rfl
            case o9 => intro W hW;rintro _ rfl;change wpList _ _ _ _ _ _;go_wp2;exact j3 rfl rfl rfl
            case o10 => intro W hW;rintro _ rfl;rintro _ rfl;change wpList _ _ _ _ _ _;go_wp2;exact j3 rfl rfl rfl
            case o11 => intro W hW;rintro _ rfl;rintro _ rfl;rintro _ rfl;change wpList _ _ _ _ _ _;go_wp2;exact j3 rfl rfl rfl
            case o12 =>
              intro W hW;rintro _ rfl;rintro _ rfl;change wpList _ _ _ _ _ _
              have hc:=((HK.out.below hW HK.out.lt).cell (a * 16 + k)).trans (lR HV1.out)
              go_wp2;exact j3 rfl rfl rfl
            case o13 => intro W hW;rintro _ rfl;rintro _ rfl;change wpList _ _ _ _ _ _;go_wp2;exact j3 rfl rfl rfl
            case o14 => intro W hW;rintro _ rfl;change wpList _ _ _ _ _ _;exact jC _ rfl rfl rfl rfl
            case o15 => intro W hW;rintro _ rfl;change wpList _ _ _ _ _ _;exact jC _ rfl rfl rfl rfl
            case o16 => intro W hW;rintro _ rfl;rintro _ rfl;change wpList _ _ _ _ _ _;exact jC _ rfl rfl rfl rfl
            case o17 => intro W hW;rintro _ rfl;rintro _ rfl;rintro _ rfl;change wpList _ _ _ _ _ _;exact jC _ rfl rfl rfl rfl
            case o18 => intro W hW;rintro _ rfl;rintro _ rfl;change wpList _ _ _ _ _ _;exact jC _ rfl rfl rfl rfl
            case o19 => intro W hW;rintro _ rfl;rintro _ rfl;rintro _ rfl;change wpList _ _ _ _ _ _;go_wp2;exact j3 rfl rfl rfl
            case o20 => intro W hW;rintro _ rfl;rintro _ rfl;change wpList _ _ _ _ _ _;go_wp2;exact j3 rfl rfl rfl
            case o21 => intro W hW;rintro _ rfl;change wpList _ _ _ _ _ _;go_wp2;exact j3 rfl rfl rfl
            case o22 => intro W hW;rintro _ rfl;rintro _ rfl;change wpList _ _ _ _ _ _;go_wp2;exact j3 rfl rfl rfl
          case hend =>
            intro W hW;rintro _ rfl;rintro _ rfl;rintro _ rfl;rintro _ rfl;rintro _ rfl;rintro _ rfl;rintro _ rfl;rintro _ rfl;rintro _ rfl;rintro _ rfl;rintro _ rfl;rintro _ rfl;rintro _ rfl;rintro _ rfl;rintro _ rfl;rintro _ rfl;rintro _ rfl;rintro _ rfl;rintro _ rfl;rintro _ rfl;rintro _ rfl;rintro _ rfl;rintro _ rfl
            simp only [given,jI,List.set,List.drop]
            have HK8:=kp (HK.out.below hW HK.out.lt)
            have HB8:=kp (HBL.out.trans (Below.mono hW HBS.out))
            have hcv:=(HK8.out.cell (a * 16 + b)).trans (lR HV0.out)
            have hfv:=HK8.out.frozen (a * 16 + b)
            go_wp2
            go_roundw
            case rel => exact ⟨b + 1,L3.set (a * 16 + b) false,by omega,by go_num,by rw [List.length_set];exact HL.out,HStep.out _ (by simp),by rw [← zE];exact HK8.out.set (a * 16 + b) (.bool false),HB8.out.setCell HG3.out _⟩
            case measure => simp [intOf];omega
        · go_wp2
          apply jJ 23 (.is _ :: .is _ :: .is _ :: .is _ :: .is _ :: .is _ :: .is _ :: .is _ :: .is _ :: .is _ :: .is _ :: .is _ :: .is _ :: .is _ :: .is _ :: .is _ :: .is _ :: .is _ :: .is _ :: .is _ :: .is _ :: .is _ :: .is _ :: [])
            [[],[],[],[],[(2,46)],[(4,48),(3,47)],[(5,49)],[(6,50)],[(7,51)],[(7,51)],[(8,52),(7,51)],[(10,54),(9,53),(7,51)],[(11,55),(7,51)],[(12,56),(7,51)],[(13,57)],[(13,57)],[(14,58),(13,57)],[(16,60),(15,59),(13,57)],[(17,61),(13,57)],[(13,57),(18,62),(7,51)],[(7,51),(19,63)],[(0,44)],[(21,65),(1,45)],[(22,66),(20,64)]]
            [(0,44),(1,45),(2,46),(3,47),(4,48),(5,49),(6,50),(7,51),(8,52),(9,53),(10,54),(11,55),(12,56),(13,57),(14,58),(15,59),(16,60),(17,61),(18,62),(19,63),(20,64),(21,65),(22,66)] (by kernel_rfl) (by kernel_rfl) (by kernel_rfl) (by kernel_rfl) (by kernel_rfl)
          case hob =>
            refine ⟨?o0,?o1,?o2,?o3,?o4,?o5,?o6,?o7,?o8,?o9,?o10,?o11,?o12,?o13,?o14,?o15,?o16,?o17,?o18,?o19,?o20,?o21,?o22,trivial⟩
            case o0 => intro W hW;change wpList _ _ _ _ _ _;go_wp2;exact j3 rfl rfl rfl
            case o1 => intro W hW;change wpList _ _ _ _ _ _;go_wp2;exact j3 rfl rfl rfl
            case o2 => intro W hW;change wpList _ _ _ _ _ _;go_wp2;exact j3 rfl rfl rfl
            case o3 => intro W hW;change wpList _ _ _ _ _ _;go_wp2;exact j3 rfl rfl rfl
            case o4 => intro W hW;rintro _ rfl;change wpList _ _ _ _ _ _;go_wp2;exact j3 rfl rfl rfl
            case o5 => intro W hW;rintro _ rfl;rintro _ rfl;change wpList _ _ _ _ _ _;go_wp2;exact j3 rfl rfl rfl
            case o6 =>
              intro W hW;rintro _ rfl;change wpList _ _ _ _ _ _
              have hc:=((HK.out.below hW HK.out.lt).cell (a * 16 + b)).trans (lR HV0.out)
              go_wp2;exact j3 rfl rfl rfl
            case o7 => intro W hW;rintro _ rfl;change wpList _ _ _ _ _ _;go_wp2;exact j3 rfl rfl rfl
            case o8 => intro W hW;rintro _ rfl;change wpList _ _ _ _ _ _;go_wp2;exact j3 rfl rfl rfl
            case o9 => intro W hW;rintro _ rfl;change wpList _ _ _ _ _ _;go_wp2;exact j3 rfl rfl rfl
            case o10 => intro W hW;rintro _ rfl;rintro _ rfl;change wpList _ _ _ _ _ _;go_wp2;exact j3 rfl rfl rfl
            case o11 => intro W hW;rintro _ rfl;rintro _ rfl;rintro _ rfl;change wpList _ _ _ _ _ _;go_wp2;exact j3 rfl rfl rfl
            case o12 =>
              intro W hW;rintro _ rfl;rintro _ rfl;change wpList _ _ _ _ _ _
              have hc:=((HK.out.below hW HK.out.lt).cell (a * 16 + k)).trans (lR HV1.out)
              go_wp2;exact j3 rfl rfl rfl
            case o13 => intro W hW;rintro _ rfl;rintro _ rfl;change wpList _ _ _ _ _ _;go_wp2;exact j3 rfl rfl rfl
            case o14 => intro W hW;rintro _ rfl;change wpList _ _ _ _ _ _;go_wp2;exact j3 rfl rfl rfl
            case o15 => intro W hW;rintro _ rfl;change wpList _ _ _ _ _ _;go_wp2;exact j3 rfl rfl rfl
            case o16 => intro W hW;rintro _ rfl;rintro _ rfl;change wpList _ _ _ _ _ _;go_wp2;exact j3 rfl rfl rfl
            case o17 => intro W hW;rintro _ rfl;rintro _ rfl;rintro _ rfl;change wpList _ _ _ _ _ _;go_wp2;exact j3 rfl rfl rfl
            case o18 =>
              intro W hW;rintro _ rfl;rintro _ rfl;change wpList _ _ _ _ _ _
              have hc:=((HK.out.below hW HK.out.lt).cell (k * 16 + b)).trans (lR HV2.out)
              go_wp2;exact j3 rfl rfl rfl
            case o19 => intro W hW;rintro _ rfl;rintro _ rfl;rintro _ rfl;change wpList _ _ _ _ _ _;go_wp2;exact j3 rfl rfl rfl
            case o20 => intro W hW;rintro _ rfl;rintro _ rfl;change wpList _ _ _ _ _ _;go_wp2;exact j3 rfl rfl rfl
            case o21 => intro W hW;rintro _ rfl;change wpList _ _ _ _ _ _;go_wp2;exact j3 rfl rfl rfl
            case o22 => intro W hW;rintro _ rfl;rintro _ rfl;change wpList _ _ _ _ _ _;go_wp2;exact j3 rfl rfl rfl
          case hend =>
            intro W hW;rintro _ rfl;rintro _ rfl;rintro _ rfl;rintro _ rfl;rintro _ rfl;rintro _ rfl;rintro _ rfl;rintro _ rfl;rintro _ rfl;rintro _ rfl;rintro _ rfl;rintro _ rfl;rintro _ rfl;rintro _ rfl;rintro _ rfl;rintro _ rfl;rintro _ rfl;rintro _ rfl;rintro _ rfl;rintro _ rfl;rintro _ rfl;rintro _ rfl;rintro _ rfl
            simp only [given,jI,List.set,List.drop]
            have HK8:=kp (HK.out.below hW HK.out.lt)
            have HB8:=kp (HBL.out.trans (Below.mono hW HBS.out))
            have hcv:=(HK8.out.cell (a * 16 + b)).trans (lR HV0.out)
            have hfv:=HK8.out.frozen (a * 16 + b)
            go_wp2
            go_roundw
            case rel => exact ⟨b + 1,L3.set (a * 16 + b) v2,by omega,by go_num,by rw [List.length_set];exact HL.out,HStep.out _ (by simp),by rw [← zE];exact HK8.out.set (a * 16 + b) (.bool v2),HB8.out.setCell HG3.out _⟩
            case measure => simp [intOf];omega
      · go_wp2
        apply jJ 23 (.is _ :: .is _ :: .is _ :: .is _ :: .is _ :: .is _ :: .is _ :: .is _ :: .is undef :: .is undef :: .is undef :: .is undef :: .is undef :: .is undef :: .is undef :: .is undef :: .is undef :: .is undef :: .is undef :: .is undef :: .is _ :: .is _ :: .is _ :: [])
          [[],[],[],[],[(2,46)],[(4,48),(3,47)],[(5,49)],[(6,50)],[(7,51)],[(7,51)],[(8,52),(7,51)],[(10,54),(9,53),(7,51)],[(11,55),(7,51)],[(12,56),(7,51)],[(13,57)],[(13,57)],[(14,58),(13,57)],[(16,60),(15,59),(13,57)],[(17,61),(13,57)],[(13,57),(18,62),(7,51)],[(7,51),(19,63)],[(0,44)],[(21,65),(1,45)],[(22,66),(20,64)]]
          [(0,44),(1,45),(2,46),(3,47),(4,48),(5,49),(6,50),(7,51),(8,52),(9,53),(10,54),(11,55),(12,56),(13,57),(14,58),(15,59),(16,60),(17,61),(18,62),(19,63),(20,64),(21,65),(22,66)] (by kernel_rfl) (by kernel_rfl) (by kernel_rfl) (by kernel_rfl) (by kernel_rfl)
        case hob =>
          refine ⟨?o0,?o1,?o2,?o3,?o4,?o5,?o6,?o7,?o8,?o9,?o10,?o11,?o12,?o13,?o14,?o15,?o16,?o17,?o18,?o19,?o20,?o21,?o22,trivial⟩
          case o0 => intro W hW;change wpList _ _ _ _ _ _;go_wp2;exact j3 rfl rfl rfl
          case o1 => intro W hW;change wpList _ _ _ _ _ _;go_wp2;exact j3 rfl rfl rfl
          case o2 => intro W hW;change wpList _ _ _ _ _ _;go_wp2;exact j3 rfl rfl rfl
          case o3 => intro W hW;change wpList _ _ _ _ _ _;go_wp2;exact j3 rfl rfl rfl
          case o4 => intro W hW;rintro _ rfl;change wpList _ _ _ _ _ _;go_wp2;exact j3 rfl rfl rfl
          case o5 => intro W hW;rintro _ rfl;rintro _ rfl;change wpList _ _ _ _ _ _;go_wp2;exact j3 rfl rfl rfl
          case o6 =>
            intro W hW;rintro _ rfl;change wpList _ _ _ _ _ _
            have hc:=((HK.out.below hW HK.out.lt).cell (a * 16 + b)).trans (lR HV0.out)
            go_wp2;exact j3 rfl rfl rfl
          case o7 => intro W hW;rintro _ rfl;change wpList _ _ _ _ _ _;go_wp2;exact j3 rfl rfl rfl
          case o8 => intro W hW;rintro _ rfl;change wpList _ _ _ _ _ _;exact jC _ rfl rfl rfl rfl
          case o9 => intro W hW;rintro _ rfl;change wpList _ _ _ _ _ _;exact jC _ rfl rfl rfl rfl
          case o10 => intro W hW;rintro _ rfl;rintro _ rfl;change wpList _ _ _ _ _ _;exact jC _ rfl rfl rfl rfl
          case o11 => intro W hW;rintro _ rfl;rintro _ rfl;rintro _ rfl;change wpList _ _ _ _ _ _;exact jC _ rfl rfl rfl rfl
          case o12 => intro W hW;rintro _ rfl;rintro _ rfl;change wpList _ _ _ _ _ _;exact jC _ rfl rfl rfl rfl
          case o13 => intro W hW;rintro _ rfl;rintro _ rfl;change wpList _ _ _ _ _ _;exact jC _ rfl rfl rfl rfl
          case o14 => intro W hW;rintro _ rfl;change wpList _ _ _ _ _ _;exact jC _ rfl rfl rfl rfl
          case o15 => intro W hW;rintro _ rfl;change wpList _ _ _ _ _ _;exact jC _ rfl rfl rfl rfl
          case o16 => intro W hW;rintro _ rfl;rintro _ rfl;change wpList _ _ _ _ _ _;exact jC _ rfl rfl rfl rfl
          case o17 => intro W hW;rintro _ rfl;rintro _ rfl;rintro _ rfl;change wpList _ _ _ _ _ _;exact jC _ rfl rfl rfl rfl
          case o18 => intro W hW;rintro _ rfl;rintro _ rfl;change wpList _ _ _ _ _ _;exact jC _ rfl rfl rfl rfl
          case o19 => intro W hW;rintro _ rfl;rintro _ rfl;rintro _ rfl;change wpList _ _ _ _ _ _;exact jC _ rfl rfl rfl rfl
          case o20 => intro W hW;rintro _ rfl;rintro _ rfl;change wpList _ _ _ _ _ _;go_wp2;exact j3 rfl rfl rfl
          case o21 => intro W hW;rintro _ rfl;change wpList _ _ _ _ _ _;go_wp2;exact j3 rfl rfl rfl
          case o22 => intro W hW;rintro _ rfl;rintro _ rfl;change wpList _ _ _ _ _ _;go_wp2;exact j3 rfl rfl rfl
        case hend =>
          intro W hW;rintro _ rfl;rintro _ rfl;rintro _ rfl;rintro _ rfl;rintro _ rfl;rintro _ rfl;rintro _ rfl;rintro _ rfl;rintro _ rfl;rintro _ rfl;rintro _ rfl;rintro _ rfl;rintro _ rfl;rintro _ rfl;rintro _ rfl;rintro _ rfl;rintro _ rfl;rintro _ rfl;rintro _ rfl;rintro _ rfl;rintro _ rfl;rintro _ rfl;rintro _ rfl
          simp only [given,jI,List.set,List.drop]
          have HK8:=kp (HK.out.below hW HK.out.lt)
          have HB8:=kp (HBL.out.trans (Below.mono hW HBS.out))
          have hcv:=(HK8.out.cell (a * 16 + b)).trans (lR HV0.out)
          have hfv:=HK8.out.frozen (a * 16 + b)
          go_wp2
          go_roundw
          case rel => exact ⟨b + 1,L3.set (a * 16 + b) true,by omega,by go_num,by rw [List.length_set];exact HL.out,HStep.out _ (by simp),by rw [← zE];exact HK8.out.set (a * 16 + b) (.bool true),HB8.out.setCell HG3.out _⟩
          case measure => simp [intOf];omega
    · have hbe : b = 16:=by omega
      have HClo2 : Kept (Q.Clo R 16 k (a + 1) 0 (Q.ent L3)):=kp (by have h:=HClo.out;rw [hbe] at h;exact h.line)
      have hge : 16 ≤ b:=by omega
      clear hb16 hbe hL
      go_wp2
      refine HX.out _ _ _ _ _ _ _ _ _ _ _ _ _ _ _ _ _ _ _ _ _ _ _ _ _ _ _ _ _ L3 HL.out HClo2.out HK.out HBL.out
end Go.Proofs.YtoekiejipdabmaaDoor
