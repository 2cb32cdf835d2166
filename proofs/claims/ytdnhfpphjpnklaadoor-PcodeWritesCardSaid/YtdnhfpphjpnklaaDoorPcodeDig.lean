/- A program's digest, walked: Digest. -/
import Derived.Test.YtdnhfpphjpnklaaDoorPcodeP4
import Derived.Test.YtdnhfpphjpnklaaDoorPk18
namespace Go.Proofs.YtdnhfpphjpnklaaDoor
open Go.RowKit

/-- What a function hands back that keeps its first result in a block, beside another. -/
theorem results_blk1 {P : Program} {fn : Func} {p : Tmp} {a : Nat} {ty : TypeId} (h : fn.results = #[.cell p ty, .tmp a]) (tmps : Array Value) (w : World) (g : Nat) (t : TypeId) (cs : List Value) (d : TypeDesc) (va : Value)
    (hp : tmps.getD p undef = .pointer (some ⟨g, 0, none⟩)) (ha : tmps.getD a undef = va) (hg : Blk w g t cs)
    (hu : P.underlying ty = some d) (hd : (match d with | .struct _ | .array _ _ => true | _ => false) = true) (hi : (P.info? ty).map (·.size) = some cs.length) :
    (results fn tmps).run P w = .ok (.tuple #[.agg cs.toArray, va]) w := by
  subst ha
  have hp' : tmps[p]?.getD undef = .pointer (some ⟨g, 0, none⟩) := by simpa using hp
  simp [results, h, hp', asAddr, run_loadVar_row w g t ty cs.toArray (0, 0) d hg hu hd (by simpa using hi)]
/-- Thirty-two bytes of nothing. -/
def dig0 : List Nat := List.replicate 32 0
theorem dig0_len : dig0.length = 32 := rfl

set_option maxRecDepth 1000000 in
set_option maxHeartbeats 8000000 in
theorem pc_digest_not (B : Nat) (p : Pg) (w : World) (hp : p.Ok w B) (hB : B ≤ w.heap.size) (hs : Q.small p = true) (a b : Int) (c : Nat) (hc : Q.check p = (a, b, c)) (h0 : c ≠ 0) :
    Calls Tryd.prog 7 #[pgA p] w fun e w' => e = .returned (.tuple #[.agg (dig0.map byteV).toArray, .int .i64 (c : Int)]) ∧ Below w.heap.size w w' := by
  have HP := kp hp; have HC := kp hc; have HS := kp hs; have H0 := kp h0
  have hcb : ((c : Int) != 0) = true := by rw [bne_iff_ne]; omega
  obtain ⟨z, hz⟩ : ∃ z, dig0 = z := ⟨_, rfl⟩
  have hzl : z.length = 32 := by rw [← hz]; rfl
  have hz32 : (Tryd.prog.info? 31).map (·.zero) = some (some (.agg (z.map byteV).toArray)) := by rw [← hz]; exact zero32
  have HZl := kp hzl; have HZ := kp hz32
  clear hp hc hs h0 hzl hz32
  rw [hz]
  clear hz
  rw [pgA_is]
  obtain ⟨pc, hpc⟩ : ∃ pc, pgC p = pc := ⟨_, rfl⟩
  have HPc := kp hpc
  have hlen : pc.length = 4 := by rw [← hpc]; rfl
  rw [hpc]
  clear hpc
  go_enter Tryd.func7, Tryd.ntmps7
  go_wp2_with (first
    | ((with_reducible refine wpList_box_agg rfl 24 (.tmp 0) rfl pc rfl ?_); intro g1 w1 hg1 hk1 hw1; have HK1 := kp hk1; have HW1 := kp hw1; have hs1 := hw1.size; clear hg1 hk1 hw1)
    | ((with_reducible show wpList _ _ _ (⟨some 2, _, _, _, _, _⟩ :: _) _ _); go_must (refine wpList_alloc_zero rfl 31 rfl _ HZ.out ?_); intro g2 w2 hg2 hk2 hw2
       have HK2 := kp hk2; have HW2 := kp (HW1.out.trans (hw2.mono hs1)); have hs2 := HW2.out.size; have HKp := kp (HK1.out.below hw2 HK1.out.lt); have hg2' : w.heap.size ≤ g2 := Nat.le_trans hs1 hg2
       clear hk2 hw2 hg2)
    | ((with_reducible show wpList _ _ _ (⟨some 7, _, _, _, _, _⟩ :: _) _ _); go_must (refine wpList_load_blk rfl 24 (.tmp 1) rfl g1 rfl _ pc _ HKp.out Tryd.underlying24 rfl (by rw [hlen]; exact pg_size) ?_))
    | (go_at_call 6; rw [← HPc.out, ← pgA_is]; go_must (refine (pc_write_not B p w2 (HP.out.below (HW2.out.mono hB)) (by omega) HS.out a b c HC.out H0.out).mono ?_); rintro e w3 ⟨rfl, hb3⟩
       have HW3 := kp (HW2.out.trans (hb3.mono hs2)); have HK3 := kp (HK2.out.below hb3 HK2.out.lt); clear hb3)
    | ((with_reducible show wpList _ _ _ (⟨some 13, _, _, _, _, _⟩ :: _) _ _); go_must (refine wpList_build_zero rfl 31 rfl _ 32 5 Tryd.underlying31 (by rw [size1b]; rfl) HZ.out ?_))
    | ((with_reducible show wpList _ _ _ (⟨none, _, _, _, _, _⟩ :: _) _ _); (refine wpList_store_blk rfl 31 (.tmp 2) (.tmp 13) rfl g2 (z.map byteV) rfl rfl _ _ HK3.out (size32.trans (by rw [List.length_map, HZl.out])) rfl (ones _ one_byteV _) ?_); intro w4 hk4 hg4 hz4
       have HK4 := kp hk4; have HW4 : Kept (Below w.heap.size w w4) := kp (HW3.out.grown hg4 HW3.out.size (by intro k e; cases e; exact hg2'))
       clear hk4 hg4 hz4))
  refine bodyPost_ret (results_blk1 (P := Tryd.prog) (fn := Tryd.f7) rfl _ _ g2 31 (z.map byteV) _ _ rfl rfl HK4.out Tryd.underlying31 rfl (size32.trans (by rw [List.length_map, HZl.out]))) rfl ⟨rfl, HW4.out⟩

set_option maxRecDepth 1000000 in
set_option maxHeartbeats 8000000 in
theorem pc_digest (B : Nat) (p : Pg) (w : World) (hp : p.Ok w B) (hB : B ≤ w.heap.size) (hs : Q.small p = true) (a b : Int) (hc : Q.check p = (a, b, 0)) (hk : Row wordV w 1 (some ⟨0, 0, none⟩) 64 H.K) (dig : List Nat) (hd : H.digest (C.pgB (C.dataOf p)) = dig) (hm : (C.pgB (C.dataOf p)).length ≤ 65536) :
    Calls Tryd.prog 7 #[pgA p] w fun e w' => e = .returned (.tuple #[.agg (dig.map byteV).toArray, .int .i64 0]) ∧ Below w.heap.size w w' := by
  have HP := kp hp; have HC := kp hc; have HS := kp hs; have HKey := kp hk
  have hkey := keys_size hk
  have hdl : dig.length = 32 := by rw [← hd]; exact digest_len _
  have HDl := kp hdl
  have hby := C.pgB_small (C.dataOf p)
  obtain ⟨l, hl⟩ : ∃ l, C.pgB (C.dataOf p) = l := ⟨_, rfl⟩
  have HL := kp hl
  rw [hl] at hd hm hby
  have HD := kp hd; have HBy := kp hby
  obtain ⟨n, hn⟩ : ∃ n, l.length = n := ⟨_, rfl⟩
  have HN := kp hn
  clear hp hc hs hk hd hdl hby hl hn
  rw [pgA_is]
  obtain ⟨pc, hpc⟩ : ∃ pc, pgC p = pc := ⟨_, rfl⟩
  have HPc := kp hpc
  have hlen : pc.length = 4 := by rw [← hpc]; rfl
  rw [hpc]
  clear hpc
  go_enter Tryd.func7, Tryd.ntmps7
  go_wp2_with (first
    | ((with_reducible refine wpList_box_agg rfl 24 (.tmp 0) rfl pc rfl ?_); intro g1 w1 hg1 hk1 hw1; have HK1 := kp hk1; have HW1 := kp hw1; have hs1 := hw1.size; clear hg1 hk1 hw1)
    | ((with_reducible show wpList _ _ _ (⟨some 2, _, _, _, _, _⟩ :: _) _ _); go_must (refine wpList_alloc_zero rfl 31 rfl _ zero32 ?_); intro g2 w2 hg2 hk2 hw2
       have HK2 := kp hk2; have HW2 := kp (HW1.out.trans (hw2.mono hs1)); have hs2 := HW2.out.size; have HKp := kp (HK1.out.below hw2 HK1.out.lt); have hg2' : w.heap.size ≤ g2 := Nat.le_trans hs1 hg2
       clear hk2 hw2 hg2)
    | ((with_reducible show wpList _ _ _ (⟨some 7, _, _, _, _, _⟩ :: _) _ _); go_must (refine wpList_load_blk rfl 24 (.tmp 1) rfl g1 rfl _ pc _ HKp.out Tryd.underlying24 rfl (by rw [hlen]; exact pg_size) ?_))
    | (go_at_call 6; rw [← HPc.out, ← pgA_is]; go_must (refine (pc_write B p w2 (HP.out.below (HW2.out.mono hB)) (by omega) HS.out a b HC.out).mono ?_); rintro e w3 ⟨v, rfl, hown, hb3⟩
       rw [HL.out] at hown
       obtain ⟨A1, c1, rfl, hc1, hm1, hr1⟩ := Own.readsN hown HN.out
       have HR3 := kp hr1
       have HW3 := kp (HW2.out.trans (hb3.mono hs2)); have hs3 := HW3.out.size; have HK3 := kp (HK2.out.below hb3 HK2.out.lt); clear hb3 hown hr1)
    | (go_at_call 17; go_must (refine (of_lit A1 n c1 _ l w3 HR3.out (Nat.le_refl _) HBy.out hc1 (HKey.out.below (HW3.out.mono hkey)) (by omega) dig HD.out).mono ?_); rintro e w4 ⟨rfl, hb4⟩
       have HW4 := kp (HW3.out.trans (hb4.mono hs3)); have hs4 := HW4.out.size; have HK4 := kp (HK3.out.below hb4 HK3.out.lt); clear hb4)
    | ((with_reducible show wpList _ _ _ (⟨none, _, _, _, _, _⟩ :: _) _ _); (refine wpList_store_blk rfl 31 (.tmp 2) (.tmp 17) rfl g2 (dig.map byteV) rfl rfl _ _ HK4.out (size32.trans (by rw [List.length_map, HDl.out])) (by rw [List.length_map, List.length_map, HDl.out]; rfl) (ones _ one_byteV _) ?_); intro w5 hk5 hg5 hz5
       have HK5 := kp hk5; have HW5 : Kept (Below w.heap.size w w5) := kp (HW4.out.grown hg5 HW4.out.size (by intro k e; cases e; exact hg2'))
       clear hk5 hg5 hz5))
  refine bodyPost_ret (results_blk1 (P := Tryd.prog) (fn := Tryd.f7) rfl _ _ g2 31 (dig.map byteV) _ _ rfl rfl HK5.out Tryd.underlying31 rfl (size32.trans (by rw [List.length_map, HDl.out]))) rfl ⟨rfl, HW5.out⟩
end Go.Proofs.YtdnhfpphjpnklaaDoor
