/- ScriptRn1, ScriptRn2, in one text. -/
import Derived.Test.YtkhfolpffjihgaaScriptP8
import Derived.Test.YtkhfolpffjihgaaPk41
import Derived.Test.YtkhfolpffjihgaaScriptR2
import Derived.Test.YtkhfolpffjihgaaPk38
import Derived.Test.YtkhfolpffjihgaaPk26
/- What ScriptRuns hands Along's function, walked. -/
namespace Go.Proofs.Ytkhfolpffjihgaa
open Go.RowKit
theorem good_8s {p : Pg} {q : Pc} (h : M.Good p q.cf) : ∀ x ∈ q.tvs, x.slots.length = 8 := fun x hx => h.eight (tvT x) (List.mem_map_of_mem hx)
theorem most_8 {p : Pg} {q : Pc} {w : World} {B : Nat} (hg : M.Good p q.cf) (h : q.Ok w B) : q.len ≤ 8 := by rw [← h.len]; exact hg.most
theorem put_none_rn1 (a : Act) (v : Value) : a.put none v = a := rfl
theorem pick_size11 : (Try.prog.info? 29).map (·.size) = some 2 := by kernel_rfl
set_option maxRecDepth 1000000 in
set_option maxHeartbeats 8000000 in
theorem sc_runs2 (p : Pg) (A : Option Addr) (i n c : Nat) (z : List (Int × Bool)) (st : Int) (hst : 0 ≤ st ∧ st < 256) (hn : n ≤ 120) (hi : i ≤ n) (hc : n ≤ c ∧ c ≤ maxLen) (gG gK gl g1 gs : Nat) (r : Pc) (w : World) (hp : p.Ok w w.heap.size) (hz : Picks w w.heap.size A n z) (hf : Fine p)
    (hG : Blk w gG 4 [.bool true]) (hK : Blk w gK 3 [.int .i64 (i : Int)]) (hl : Blk w gl 22 [.slice A n c]) (h1 : Blk w g1 38 (pgC p)) (hs : Blk w gs 5 [.int .u8 st]) (hr : r.Ok w w.heap.size) (hcr : r.cf = runTo p z i) :
    Calls Try.prog 22 #[.int .i64 (i : Int), pcA r, .pointer (some ⟨gG, 0, none⟩), .pointer (some ⟨gK, 0, none⟩), .pointer (some ⟨gl, 0, none⟩), .pointer (some ⟨g1, 0, none⟩), .pointer (some ⟨gs, 0, none⟩)] w fun e w' => ∃ wa, e = .returned (.bool (decide ((i : Int) + 1 ≤ st))) ∧ w.grownBy wa (some gG) ∧ Blk wa gG 4 [.bool true] ∧ wa.grownBy w' (some gK) ∧ Blk w' gK 3 [.int .i64 ((i : Int) + 1)] := by
  have HGd : Kept (∀ j, M.Good p (runTo p z j)) := kp (qG hf hp.row.len z)
  have HGr : Kept (M.Good p r.cf) := kp (by rw [hcr]; exact HGd.out i)
  have H17 := kp (jG (good_owp HGr.out rfl : r.ow.length = 16))
  have HF := kp hf; have HCr := kp hcr; have HCc := kp hc.2; have hnc := hc.1; have hcm := hc.2; have HP0 := kp hp; have HZ0 := kp hz; have HG0 := kp hG; have HK0 := kp hK; have HL0 := kp hl; have HPb0 := kp h1; have HS0 := kp hs; have HR0 := kp hr
  have hs0 := hst.1; have hs9 := hst.2
  unfold maxLen at hcm
  have hin : i ≤ n := hi
  clear hp hz hf hG hK hl h1 hs hr hcr hc hst hi
  rw [show pcA r = .agg (pcC r).toArray from rfl]
  go_enter Try.func22, Try.ntmps22
  go_wp2_with (first
    | ((with_reducible refine j2 rfl 43 (.tmp 1) rfl (pcC r) rfl ?_); intro g8 w1 hg8 hk8 hb1; have HC8 := kp hk8; have HB1 := kp hb1; have hs1 := hb1.size; have HG := kp (HG0.out.below hb1 HG0.out.lt); have HK := kp (HK0.out.below hb1 HK0.out.lt); have HL := kp (HL0.out.below hb1 HL0.out.lt); have HPb := kp (HPb0.out.below hb1 HPb0.out.lt); have HR := kp ((HR0.out.below hb1).more hs1); have HP := kp (qZ (HP0.out.below hb1) hs1); have HZ := kp ((HZ0.out.below hb1).more hs1); clear hk8 hb1 hg8))
  apply jD 25 (.is (.bool true) :: .is (.bool true) :: .is (.int .i64 (i : Int)) :: .is (.int .i64 (i : Int)) :: .is (.bool true) :: .is (.bool true) :: .is (.bool true) :: .is (.int .i64 (i : Int)) :: .is (.slice A n c) :: .is (.int .i64 (n : Int)) :: .is (.bool true) :: .is (.bool true) :: .is (.bool true) :: .is (pcA r) :: (.plain w1.heap.size r.cf) :: .is (pgA p) :: .is (.slice A n c) :: .is (.int .i64 (i : Int)) :: .is (.slice A n c) :: .is (.int .i64 (n : Int)) :: .is (.int .i64 (i : Int)) :: .is (.slice A i c) :: (.rsteppedR w1.heap.size r.cf) :: .is (.bool true) :: .is (.bool true) :: [])
    [[], [(0, 10)], [(1, 11)], [(1, 11)], [(2, 12), (3, 13), (1, 11)], [(1, 11), (4, 14)], [(5, 15)], [(6, 16)], [(6, 16)], [(8, 18), (6, 16)], [(7, 17), (9, 19), (6, 16)], [(6, 16), (10, 20)], [(11, 21)], [(12, 22)], [(13, 23), (12, 22)], [(12, 22)], [(12, 22)], [(12, 22)], [(12, 22)], [(18, 28), (12, 22)], [(17, 27), (19, 29), (12, 22)], [(16, 26), (20, 30), (12, 22)], [(15, 25), (21, 31), (12, 22)], [(14, 24), (22, 32), (12, 22)], [(12, 22), (23, 33)], [(24, 34)]]
    [(0, 10), (1, 11), (2, 12), (3, 13), (4, 14), (5, 15), (6, 16), (7, 17), (8, 18), (9, 19), (10, 20), (11, 21), (12, 22), (13, 23), (14, 24), (15, 25), (16, 26), (17, 27), (18, 28), (19, 29), (20, 30), (21, 31), (22, 32), (23, 33), (24, 34)] (by kernel_rfl) (by kernel_rfl) (by kernel_rfl) (by kernel_rfl) (by kernel_rfl)
  case hob =>
    refine ⟨?o0, ?o1, ?o2, ?o3, ?o4, ?o5, ?o6, ?o7, ?o8, ?o9, ?o10, ?o11, ?o12, ?o13, ?o14, ?o15, ?o16, ?o17, ?o18, ?o19, ?o20, ?o21, ?o22, ?o23, ?o24, trivial⟩
    case o0 =>
      intro W hW; change wpList _ _ _ _ _ _
      have hx : W.cell? ⟨gG, 0, none⟩ = some (.bool true) := (HG.out.below hW HG.out.lt).cell 0
      go_wp2; exact j0 rfl rfl rfl
    case o1 => intro W hW; rintro _ rfl; change wpList _ _ _ _ _ _; go_wp2; exact j0 rfl rfl rfl
    case o2 => intro W hW; rintro _ rfl; change wpList _ _ _ _ _ _; go_wp2; exact j0 rfl rfl rfl
    case o3 =>
      intro W hW; rintro _ rfl; change wpList _ _ _ _ _ _
      have hx : W.cell? ⟨gK, 0, none⟩ = some (.int .i64 (i : Int)) := (HK.out.below hW HK.out.lt).cell 0
      go_wp2; exact j0 rfl rfl rfl
    case o4 =>
      intro W hW; rintro _ rfl; rintro _ rfl; rintro _ rfl; change wpList _ _ _ _ _ _
      have hx : ((i : Int) == (i : Int)) = true := beq_self_eq_true _
      go_wp2; exact j0 rfl rfl rfl
    case o5 => intro W hW; rintro _ rfl; rintro _ rfl; change wpList _ _ _ _ _ _; go_wp2; exact j0 rfl rfl rfl
    case o6 => intro W hW; rintro _ rfl; change wpList _ _ _ _ _ _; go_wp2; exact j0 rfl rfl rfl
    case o7 =>
      intro W hW; rintro _ rfl; change wpList _ _ _ _ _ _
      have hx : W.cell? ⟨gK, 0, none⟩ = some (.int .i64 (i : Int)) := (HK.out.below hW HK.out.lt).cell 0
      go_wp2; exact j0 rfl rfl rfl
    case o8 =>
      intro W hW; rintro _ rfl; change wpList _ _ _ _ _ _
      have hx : W.cell? ⟨gl, 0, none⟩ = some (.slice A n c) := (HL.out.below hW HL.out.lt).cell 0
      go_wp2; exact j0 rfl rfl rfl
    case o9 => intro W hW; rintro _ rfl; rintro _ rfl; change wpList _ _ _ _ _ _; go_wp2; exact j0 rfl rfl rfl
    case o10 => intro W hW; rintro _ rfl; rintro _ rfl; rintro _ rfl; change wpList _ _ _ _ _ _; go_wp2; exact j0 rfl rfl rfl
    case o11 => intro W hW; rintro _ rfl; rintro _ rfl; change wpList _ _ _ _ _ _; go_wp2; exact j0 rfl rfl rfl
    case o12 => intro W hW; rintro _ rfl; change wpList _ _ _ _ _ _; go_wp2; exact j0 rfl rfl rfl
    case o13 =>
      intro W hW; rintro _ rfl; change wpList _ _ _ _ _ _
      go_must (refine l3 rfl 43 (.tmp 8) rfl g8 rfl _ (pcC r) _ (HC8.out.below hW HC8.out.lt) Try.underlying43 rfl (by rw [H17.out]; exact j6) ?_)
      go_wp2; exact j0 rfl rfl rfl
    case o14 =>
      intro W hW; rintro _ rfl; rintro _ rfl; change wpList _ _ _ _ _ _
      have hsW := hW.size
      go_wp2_with fail
      refine (law_plain r W ((HR.out.below hW).more hsW) (most_8 HGr.out HR.out) HGr.out.owns (low_stacks HF.out HP.out.row.len HGr.out HR.out) (good_8s HGr.out)).mono ?_
      rintro e w2 ⟨q', rfl, hm2, hcf2, _, _, hsl2, hb2⟩
      have HB2 := kp hb2; have HM2 := kp (hm2.lower hsW); have HC2 := kp hcf2; have HS2 := kp hsl2; clear hb2 hm2 hcf2 hsl2
      go_wp2
      exact jC rfl rfl rfl HB2.out ⟨q', rfl, HM2.out, HC2.out, HS2.out⟩
    case o15 =>
      intro W hW; rintro _ rfl; change wpList _ _ _ _ _ _
      go_must (refine l3 rfl 38 (.tmp 5) rfl g1 rfl _ (pgC p) _ (HPb.out.below hW HPb.out.lt) Try.underlying38 rfl jB ?_)
      go_wp2; exact j0 rfl rfl rfl
    case o16 =>
      intro W hW; rintro _ rfl; change wpList _ _ _ _ _ _
      have hx : W.cell? ⟨gl, 0, none⟩ = some (.slice A n c) := (HL.out.below hW HL.out.lt).cell 0
      go_wp2; exact j0 rfl rfl rfl
    case o17 =>
      intro W hW; rintro _ rfl; change wpList _ _ _ _ _ _
      have hx : W.cell? ⟨gK, 0, none⟩ = some (.int .i64 (i : Int)) := (HK.out.below hW HK.out.lt).cell 0
      go_wp2; exact j0 rfl rfl rfl
    case o18 =>
      intro W hW; rintro _ rfl; change wpList _ _ _ _ _ _
      have hx : W.cell? ⟨gl, 0, none⟩ = some (.slice A n c) := (HL.out.below hW HL.out.lt).cell 0
      go_wp2; exact j0 rfl rfl rfl
    case o19 => intro W hW; rintro _ rfl; rintro _ rfl; change wpList _ _ _ _ _ _; go_wp2; exact j0 rfl rfl rfl
    case o20 => intro W hW; rintro _ rfl; rintro _ rfl; rintro _ rfl; change wpList _ _ _ _ _ _; go_wp2; exact j0 rfl rfl rfl
    case o21 =>
      intro W hW; rintro _ rfl; rintro _ rfl; rintro _ rfl; change wpList _ _ _ _ _ _
      go_must (refine zG rfl 22 (.tmp 26) (.tmp 30) rfl 29 2 Try.underlying22 pick_size11 A n c rfl .i64 i rfl (by omega) ?_)
      go_wp2; exact j0 rfl rfl rfl
    case o22 =>
      intro W hW; rintro _ rfl; rintro _ rfl; rintro _ rfl; change wpList _ _ _ _ _ _
      have hsW := hW.size
      go_wp2_with fail
      refine (ref_run p A i c (z.take i) W (qZ (HP.out.below hW) hsW) (((HZ.out.front hin).below hW).more hsW) ⟨by omega, HCc.out⟩ (by omega) HF.out).mono ?_
      unfold StepR
      rintro e w2 ⟨q', rfl, hm2, hcf2, hb2⟩
      have HB2 := kp hb2; have HM2 := kp (hm2.lower hsW); have HC2 : Kept (q'.cf = r.cf) := kp (by rw [hcf2, runTo_front, HCr.out]); clear hb2 hm2 hcf2
      go_wp2
      exact jC rfl rfl rfl HB2.out ⟨q', rfl, HM2.out, HC2.out⟩
    case o23 =>
      intro W hW; rintro _ ⟨p1, rfl, hm1, hcp1, hsp1⟩; rintro _ ⟨p2, rfl, hm3, hcp3⟩; rintro _ rfl; change wpList _ _ _ _ _ _
      have hsW := hW.size
      go_wp2_with fail
      refine (rs_same W.heap.size p1 p2 W hm1.ok hm3.ok (Nat.le_refl _) hsp1 (xQ (show M.Good p p2.cf by rw [hcp3]; exact HGr.out) hm3.ok) (rc_own hcp1 HGr.out.owns) (rc_own hcp3 HGr.out.owns) true ⟨fun _ => by rw [hcp1, hcp3], fun _ => rfl⟩).mono ?_
      rintro e w2 ⟨rfl, hb2⟩
      have HB2 := kp hb2; clear hb2
      go_wp2
      exact jC rfl rfl rfl HB2.out rfl
    case o24 => intro W hW; rintro _ rfl; rintro _ rfl; change wpList _ _ _ _ _ _; go_wp2; exact j0 rfl rfl rfl
  case hend =>
    intro W hW; rintro _ rfl; rintro _ rfl; rintro _ rfl; rintro _ rfl; rintro _ rfl; rintro _ rfl; rintro _ rfl; rintro _ rfl; rintro _ rfl; rintro _ rfl; rintro _ rfl; rintro _ rfl; rintro _ rfl; rintro _ rfl; rintro _ ⟨p1, rfl, hm1, hcp1, hsp1⟩; rintro _ rfl; rintro _ rfl; rintro _ rfl; rintro _ rfl; rintro _ rfl; rintro _ rfl; rintro _ rfl; rintro _ ⟨p2, rfl, hm3, hcp3⟩; rintro _ rfl; rintro _ rfl
    simp only [given, jI, List.set, List.drop]
    have HB2 := kp (HB1.out.trans (hW.mono hs1)); have hs2 := HB2.out.size
    have HG2 := kp (HG0.out.below HB2.out HG0.out.lt); have HK2 := kp (HK0.out.below HB2.out HK0.out.lt); have HS2 := kp (HS0.out.below HB2.out HS0.out.lt)
    clear hW
    refine j7 rfl 4 (.tmp 2) (.tmp 34) rfl gG 0 (.bool true) rfl rfl rfl rfl _ _ HG2.out (by show 0 < 1; decide) xA ?_
    intro w3 hk3 hg3 hz3
    have HG3 : Kept (Blk w3 gG 4 [.bool true]) := kp hk3; have HGr3 := kp (l2 (jM HB2.out _) hg3); have HK3 := kp (HK2.out.grown hg3 (fun e => HK2.out.twoNe HG2.out (by decide) (by cases e; rfl))); have HS3 := kp (HS2.out.grown hg3 (fun e => HS2.out.twoNe HG2.out (by decide) (by cases e; rfl)))
    have hck : w3.cell? ⟨gK, 0, none⟩ = some (.int .i64 (i : Int)) := HK3.out.cell 0
    clear hk3 hg3 hz3
    simp only [put_none_rn1]
    go_wp2_with (first
      | ((with_reducible show Sn); (refine j7 rfl 3 (.tmp 3) (.tmp 36) rfl gK 0 (.int .i64 ((i : Int) + 1)) rfl rfl rfl rfl _ _ HK3.out (by show 0 < 1; decide) l5 ?_); intro w4 hk4 hg4 hz4
         have HK4 : Kept (Blk w4 gK 3 [.int .i64 ((i : Int) + 1)]) := kp hk4; have HGr4 := kp hg4; have HS4 := kp (HS3.out.grown hg4 (fun e => HS3.out.twoNe HK3.out (by decide) (by cases e; rfl)))
         clear hck
         have hck2 : w4.cell? ⟨gK, 0, none⟩ = some (.int .i64 ((i : Int) + 1)) := HK4.out.cell 0; have hcs : w4.cell? ⟨gs, 0, none⟩ = some (.int .u8 st) := HS4.out.cell 0
         clear hk4 hg4 hz4))
    go_ret
    exact ⟨w3, rfl, HGr3.out, HG3.out, HGr4.out, HK4.out⟩
end Go.Proofs.Ytkhfolpffjihgaa

/- Between two rounds of ScriptRuns. -/
namespace Go.Proofs.Ytkhfolpffjihgaa
open Go.RowKit
structure RunsJ (w : World) (S L gP gL g1 gG gK gl gs : Nat) (pg pg0 : Pg) (A A1 : Option Addr) (n c len1 cap1 : Nat) (z : List (Int × Bool)) (st k : Int) (W : World) : Prop where
  src : SrcMine W L gP gL pg A n c z
  pb : Blk W g1 38 (pgC pg0)
  bb : Blk W gG 4 [.bool true]
  bk : Blk W gK 3 [.int .i64 k]
  bl : Blk W gl 22 [.slice A1 len1 cap1]
  bs : Blk W gs 5 [.int .u8 st]
  size : S ≤ W.heap.size
  below : Below w.heap.size w W
section
variable {w : World} {S L gP gL g1 gG gK gl gs : Nat} {pg pg0 : Pg} {A A1 : Option Addr} {n c len1 cap1 : Nat} {z : List (Int × Bool)} {st k : Int} {W W' : World}
theorem RunsJ.more (h : RunsJ w S L gP gL g1 gG gK gl gs pg pg0 A A1 n c len1 cap1 z st k W) (hb : Below W.heap.size W W') : RunsJ w S L gP gL g1 gG gK gl gs pg pg0 A A1 n c len1 cap1 z st k W' :=
  ⟨h.src.below hb, h.pb.below hb h.pb.lt, h.bb.below hb h.bb.lt, h.bk.below hb h.bk.lt, h.bl.below hb h.bl.lt, h.bs.below hb h.bs.lt, Nat.le_trans h.size hb.size, h.below.trans (hb.mono h.below.size)⟩
theorem RunsJ.conf {g : Nat} {cs : List Value} (h : RunsJ w S L gP gL g1 gG gK gl gs pg pg0 A A1 n c len1 cap1 z st k W) (hS : S ≤ g) (hk : Blk W g 43 cs) (hg : W.grownBy W' (some g)) (hw : w.heap.size ≤ S) : RunsJ w S L gP gL g1 gG gK gl gs pg pg0 A A1 n c len1 cap1 z st k W' :=
  ⟨h.src.conf hk hg, h.pb.grown hg (fun e => h.pb.twoNe hk (by decide) (by cases e; rfl)), h.bb.grown hg (fun e => h.bb.twoNe hk (by decide) (by cases e; rfl)), h.bk.grown hg (fun e => h.bk.twoNe hk (by decide) (by cases e; rfl)), h.bl.grown hg (fun e => h.bl.twoNe hk (by decide) (by cases e; rfl)), h.bs.grown hg (fun e => h.bs.twoNe hk (by decide) (by cases e; rfl)), Nat.le_trans h.size hg.size, h.below.grown hg h.below.size (fun k e => by cases e; omega)⟩
theorem RunsJ.turnG (h : RunsJ w S L gP gL g1 gG gK gl gs pg pg0 A A1 n c len1 cap1 z st k W) (hk : Blk W' gG 4 [.bool true]) (hg : W.grownBy W' (some gG)) (hL : gG < L) (hw : w.heap.size ≤ gG) : RunsJ w S L gP gL g1 gG gK gl gs pg pg0 A A1 n c len1 cap1 z st k W' :=
  ⟨h.src.turn hg hL, h.pb.grown hg (fun e => h.pb.twoNe h.bb (by decide) (by cases e; rfl)), hk, h.bk.grown hg (fun e => h.bk.twoNe h.bb (by decide) (by cases e; rfl)), h.bl.grown hg (fun e => h.bl.twoNe h.bb (by decide) (by cases e; rfl)), h.bs.grown hg (fun e => h.bs.twoNe h.bb (by decide) (by cases e; rfl)), Nat.le_trans h.size hg.size, h.below.grown hg h.below.size (fun k e => by cases e; exact hw)⟩
theorem RunsJ.turnK {k' : Int} (h : RunsJ w S L gP gL g1 gG gK gl gs pg pg0 A A1 n c len1 cap1 z st k W) (hk : Blk W' gK 3 [.int .i64 k']) (hg : W.grownBy W' (some gK)) (hL : gK < L) (hw : w.heap.size ≤ gK) : RunsJ w S L gP gL g1 gG gK gl gs pg pg0 A A1 n c len1 cap1 z st k' W' :=
  ⟨h.src.turn hg hL, h.pb.grown hg (fun e => h.pb.twoNe h.bk (by decide) (by cases e; rfl)), h.bb.grown hg (fun e => h.bb.twoNe h.bk (by decide) (by cases e; rfl)), hk, h.bl.grown hg (fun e => h.bl.twoNe h.bk (by decide) (by cases e; rfl)), h.bs.grown hg (fun e => h.bs.twoNe h.bk (by decide) (by cases e; rfl)), Nat.le_trans h.size hg.size, h.below.grown hg h.below.size (fun k e => by cases e; exact hw)⟩
end
end Go.Proofs.Ytkhfolpffjihgaa
