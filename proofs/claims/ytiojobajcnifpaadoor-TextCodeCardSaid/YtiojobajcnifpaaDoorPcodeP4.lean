/- A program's bytes, as the program writes them, walked: Write. -/
import Derived.Test.YtiojobajcnifpaaDoorPk24
import Derived.Test.YtiojobajcnifpaaDoorPk14
import Derived.Test.YtiojobajcnifpaaDoorPk13
import Derived.Test.YtiojobajcnifpaaDoorPk25
import Derived.Lib.SlBytesConst
namespace Go.Proofs.YtiojobajcnifpaaDoor
open Go.RowKit

theorem pcw_zero : (Tryd.prog.info? 74).map (·.zero) = some (some (.agg [Value.slice none 0 0].toArray)) := by kernel_rfl
theorem cnt_zero : (Tryd.prog.info? 80).map (·.zero) = some (some (.agg [Value.pointer none, .int .i64 0].toArray)) := by kernel_rfl
theorem cnt_size : (Tryd.prog.info? 80).map (·.size) = some 2 := by kernel_rfl
theorem cnt_ones (ad : Addr) (m : Int) : ∀ u ∈ [Value.pointer (some ad), .int .i64 m], u.oneCell' = true := by
  intro u hu
  simp only [List.mem_cons, List.not_mem_nil, or_false] at hu
  rcases hu with h | h <;> subst h <;> rfl
/-- A row of bytes that is laid for a constant. -/
theorem row_mark {α : Type} (f : α → Value) (w : World) (l : List α) (cs : Array Value) (hcs : cs.toList = l.map f) (e : TypeId) (fr : Nat × Nat) : Row f (w.alloc (.cells cs e fr)) (w.alloc (.cells cs e fr)).heap.size (some ⟨w.heap.size, 0, none⟩) l.length l :=
  ⟨rfl, fun _ => ⟨_, rfl, by simp, fun k _ => by rw [add_start, cell_of_row _ w.heap.size k cs e fr (heap_alloc_new w _), ← Array.getElem?_toList, hcs, List.getElem?_map]⟩⟩
/-- A program's numbers. -/
def cnts (p : Pg) : List Int := p.g :: p.l :: p.s :: []
theorem cnt_cell {w : World} {g : Nat} {t : TypeId} {p : Pg} (h : Blk w g t (pgC p)) {i : Nat} (hi : i < 3) : ∃ v, (cnts p)[i]? = some v ∧ w.cell? ⟨g, i, none⟩ = some (.int .i64 v) := by
  obtain ⟨h0, h1, h2, _⟩ := pg_cells h
  have : i = 0 ∨ i = 1 ∨ i = 2 := by omega
  rcases this with rfl | rfl | rfl
  · exact ⟨p.g, rfl, h0⟩
  · exact ⟨p.l, rfl, h1⟩
  · exact ⟨p.s, rfl, h2⟩

set_option maxRecDepth 1000000 in
set_option maxHeartbeats 4000000 in
/-- Of a program that may not be there are no bytes. -/
theorem pc_write_not (B : Nat) (p : Pg) (w : World) (hp : p.Ok w B) (hB : B ≤ w.heap.size) (hs : Q.small p = true) (a b : Int) (c : Nat) (hc : Q.check p = (a, b, c)) (h0 : c ≠ 0) :
    Calls Tryd.prog 18 #[pgA p] w fun e w' => e = .returned (.tuple #[.slice none 0 0, .int .i64 (c : Int)]) ∧ Below w.heap.size w w' := by
  have HP := kp hp; have HC := kp hc; have HS := kp hs
  have hcb : ((c : Int) != 0) = true := by rw [bne_iff_ne]; omega
  clear hp hc hs h0
  rw [pgA_is]
  obtain ⟨pc, hpc⟩ : ∃ pc, pgC p = pc := ⟨_, rfl⟩
  have HPc := kp hpc
  have hlen : pc.length = 4 := by rw [← hpc]; rfl
  rw [hpc]
  clear hpc
  go_enter Tryd.func18, Tryd.ntmps18
  go_wp2_with (first
    | ((with_reducible refine wpList_box_agg rfl 25 (.tmp 0) rfl pc rfl ?_); intro g1 w1 hg1 hk1 hw1; have HK1 := kp hk1; have HW1 := kp hw1; have hs1 := hw1.size; clear hg1 hk1 hw1)
    | ((with_reducible show wpList _ _ _ (⟨some 15, _, _, _, _, _⟩ :: _) _ _); go_must (refine wpList_load_blk rfl 25 (.tmp 1) rfl g1 rfl _ pc _ HK1.out Tryd.underlying25 rfl (by rw [hlen]; exact pg_size) ?_))
    | (go_at_call 22; rw [← HPc.out, ← pgA_is]; go_must (refine (prog_check B p w1 (HP.out.below (HW1.out.mono hB)) (by omega) HS.out a b c HC.out).mono ?_); rintro e w2 ⟨rfl, hb2⟩; have HW2 := kp (HW1.out.trans (hb2.mono hs1)); clear hb2))
  go_ret2
  exact ⟨rfl, HW2.out⟩

set_option maxRecDepth 1000000 in
set_option maxHeartbeats 8000000 in
/-- A program that may be: its bytes. -/
theorem pc_write (B : Nat) (p : Pg) (w : World) (hp : p.Ok w B) (hB : B ≤ w.heap.size) (hs : Q.small p = true) (a b : Int) (hc : Q.check p = (a, b, 0)) :
    Calls Tryd.prog 18 #[pgA p] w fun e w' => ∃ v, e = .returned (.tuple #[v, .int .i64 0]) ∧ Own w' w.heap.size 5 v ((C.pgB (C.dataOf p)).map byteV) ∧ Below w.heap.size w w' := by
  have hfine := fine_of hc
  have hlen := hp.row.len
  have hok := C.fine_ok hlen hfine
  have hp16 : p.len ≤ 16 := by rw [← hlen]; have := hok.len; unfold C.dataOf at this; simpa using this
  have HFn : Kept (∀ f ∈ p.fns, f.nodes.length ≤ 64) := kp fun f hf => (hok.fns f.nodes (List.mem_map.2 ⟨f, hf, rfl⟩)).len
  have HLen := kp hlen
  have HP := kp hp; have HC := kp hc; have HS := kp hs
  have hlc := hp.lc; have hcm := hp.cm
  unfold maxLen at hcm
  have hcm9 : p.cap ≤ 9223372036854775807 := by omega
  clear hp hc hs hfine hlen hok hcm
  obtain ⟨hd, hhd⟩ : ∃ hd, C.mark ++ (C.nums (cnts p) ++ V.put (low32 (p.len : Int))) = hd := ⟨_, rfl⟩
  obtain ⟨mk, hmk⟩ : ∃ mk, C.mark = mk := ⟨_, rfl⟩
  have HMk := kp hmk
  have hmk4 : mk.length = 4 := by rw [← hmk]; rfl
  rw [hmk] at hhd
  have HHd := kp hhd
  have hhdl : hd.length ≤ 30 := by
    rw [← hhd, List.length_append, List.length_append]
    have h1 := C.nums_le (cnts p)
    have h2 := C.put5 (p.len : Int)
    have h3 : (cnts p).length = 3 := rfl
    omega
  have HAll : Kept (C.pgB (C.dataOf p) = hd ++ C.fnsB (p.fns.map (·.nodes))) := kp <| by
    unfold C.pgB C.tailB
    rw [← hhd, hmk]
    show mk ++ (C.nums (cnts p) ++ (V.put (low32 ((p.fns.map (·.nodes)).length : Int)) ++ C.fnsB (p.fns.map (·.nodes)))) = _
    rw [List.length_map, HLen.out]
    simp only [List.append_assoc]
  clear hhd hmk
  rw [pgA_is]
  obtain ⟨pc, hpc⟩ : ∃ pc, pgC p = pc := ⟨_, rfl⟩
  have HPc := kp hpc
  have hplen : pc.length = 4 := by rw [← hpc]; rfl
  rw [hpc]
  clear hpc
  go_enter Tryd.func18, Tryd.ntmps18
  go_wp2_with (first
    | ((with_reducible refine wpList_box_agg rfl 25 (.tmp 0) rfl pc rfl ?_); intro g1 w1 hg1 hk1 hw1; have HK1 := kp hk1; have HW1 := kp hw1; have hs1 := hw1.size; clear hk1 hw1)
    | ((with_reducible show wpList _ _ _ (⟨some 15, _, _, _, _, _⟩ :: _) _ _); go_must (refine wpList_load_blk rfl 25 (.tmp 1) rfl g1 rfl _ pc _ HK1.out Tryd.underlying25 rfl (by rw [hplen]; exact pg_size) ?_))
    | (go_at_call 22; rw [← HPc.out, ← pgA_is]; go_must (refine (prog_check B p w1 (HP.out.below (HW1.out.mono hB)) (by omega) HS.out a b 0 HC.out).mono ?_); rintro e w2 ⟨rfl, hb2⟩
       have HW2 := kp (HW1.out.trans (hb2.mono hs1)); have HK2 := kp (HK1.out.below hb2 HK1.out.lt); have hl2 := HK2.out.lt; have hs2 := HW2.out.size; clear hb2)
    | ((with_reducible show wpList _ _ _ (⟨some 7, _, _, _, _, _⟩ :: _) _ _); go_must (refine wpList_alloc_zero rfl 74 rfl _ pcw_zero ?_); intro g7 w3 hg7 hk7 hw7
       have HWr3 : Kept (Wr w3 (· < w2.heap.size) g7 []) := kp ⟨.slice none 0 0, hk7, Own.nil _ _ _, by simp [Value.ownBlock], by omega, fun k h => by simp [Value.ownBlock] at h, fun k h => by have := hw7.size; omega⟩
       have HW3 := kp hw7
       have hs3 := hw7.size
       have HR3 : Kept (Row byteV (w3.alloc (.cells #[.int .u8 97, .int .u8 108, .int .u8 112, .int .u8 49] 5 (4, 5))) (w3.alloc (.cells #[.int .u8 97, .int .u8 108, .int .u8 112, .int .u8 49] 5 (4, 5))).heap.size (some ⟨w3.heap.size, 0, none⟩) 4 mk) := kp (by rw [← HMk.out]; exact row_mark byteV w3 C.mark #[.int .u8 97, .int .u8 108, .int .u8 112, .int .u8 49] rfl 5 (4, 5))
       have hcv := Go.Lib.run_convert_bytes_const (P := Tryd.prog) w3 44 5 #[.int .u8 97, .int .u8 108, .int .u8 112, .int .u8 49] 4 4 Tryd.underlying44 Tryd.underlying5
       have HWr3b : Kept (Wr (w3.alloc (.cells #[.int .u8 97, .int .u8 108, .int .u8 112, .int .u8 49] 5 (4, 5))) (· < w2.heap.size) g7 []) := kp (HWr3.out.below ((Below.refl _ _).alloc (Nat.le_refl _) _) fun k h => .inl h)
       have HH3 : Kept (Held (· < w2.heap.size) w2 (w3.alloc (.cells #[.int .u8 97, .int .u8 108, .int .u8 112, .int .u8 49] 5 (4, 5)))) := kp (Held.of_below (hw7.trans (((Below.refl _ _).alloc (Nat.le_refl _) _).mono hs3)) fun k h => h)
       clear hk7 hw7)
    | (go_at_call 32; go_must (refine (wr_raw _ g7 _ [] mk _ 4 4 _ HWr3b.out HR3.out (by simp)).mono ?_); rintro e w4 ⟨rfl, hk4, hh4⟩
       rw [List.nil_append] at hk4
       have HWr4 := kp hk4
       have HH4 := kp (HH3.out.trans hh4)
       have hs4 := HH4.out.size
       clear hk4 hh4 hcv)
    | (go_at_call 33; go_must (refine (pc_counts2 g1 w4).mono ?_); rintro e w5 ⟨A5, rfl, hrec5, hA5, hb5⟩
       have HRec5 := kp hrec5; have HA5 := kp hA5
       have hs5 := hb5.size
       have HH5 := kp (HH4.out.trans (Held.of_below hb5 fun k h => by omega))
       have HWr5 : Kept (Wr w5 (fun k => k < w2.heap.size ∨ (w4.heap.size ≤ k ∧ k < w5.heap.size)) g7 mk) := kp (HWr4.out.below hb5 fun k h => h)
       clear hrec5 hA5 hb5))
  obtain ⟨S, hS⟩ : ∃ S : Nat → Prop, S = fun k => k < w2.heap.size ∨ (w4.heap.size ≤ k ∧ k < w5.heap.size) := ⟨_, rfl⟩
  have HS2 : Kept (∀ k, k < w2.heap.size → S k) := kp fun k h => by rw [hS]; exact .inl h
  have HSA : Kept (∀ ad, A5 = some ad → S ad.block) := kp fun ad e => by rw [hS]; exact .inr (HA5.out ad e)
  rw [← hS] at HWr5
  clear hS
  have HPK : Kept (∀ W, Held S w5 W → p.Ok W B) := kp fun W hW => HP.out.keep fun q hq => ((HH5.out.trans (hW.less HS2.out)).cell q (by omega)).trans (HW2.out.cell (by omega))
  have HGK : Kept (∀ W, Held S w5 W → Blk W g1 25 (pgC p)) := kp fun W hW => by rw [HPc.out]; exact HK2.out.held (HH5.out.trans (hW.less HS2.out)) hl2
  have HRK : Kept (∀ W, Held S w5 W → Recs 2 (cntV g1) W w5.heap.size A5 3 [0, 1, 2]) := kp fun W hW => HRec5.out.heldAt hW HSA.out
  have HEnd : Kept (∀ W W', Held S w5 W → Below W.heap.size W W' → Below w.heap.size w W') := kp fun W W' hW hb => HW2.out.trans ((HH5.out.trans ((hW.less HS2.out).trans (Held.of_below hb fun k h => by have := hW.size; have := hs5; omega))).less (fun k h => by omega)).below
  clear HWr3 HWr3b HR3 HH3 HWr4 HH4 HK1 HK2 HRec5
  go_loopw [28] (fun v28 wr => ∃ i : Nat, i ≤ 3 ∧ v28 = .int .i64 i ∧ Wr wr S g7 (mk ++ C.nums ((cnts p).take i)) ∧ Held S w5 wr) (fun v28 _ => 3 - (intOf v28).toNat)
  case atStart => exact ⟨0, by omega, rfl, by simpa [C.nums] using HWr5.out, Held.refl _ _⟩
  case round =>
    clear HWr5
    obtain ⟨i, hi, rfl, hkr, hhr⟩ := hrel
    have HKr := kp hkr; have HHr := kp hhr
    have hszr := hhr.size
    clear hkr hhr
    by_cases hlt : i < 3
    · obtain ⟨ad, j, rfl, hab, hx, hc0, hc1⟩ := (HRK.out wr HHr.out).field hlt
      have hji : j = i := by
        have : i = 0 ∨ i = 1 ∨ i = 2 := by omega
        rcases this with rfl | rfl | rfl <;> (simp at hx; exact hx.symm)
      subst hji
      have hc0' : wr.cell? (ad.add (j * 2)) = some (.pointer (some ⟨g1, j, none⟩)) := hc0 (by omega)
      have hc1' : wr.cell? ⟨(ad.add (j * 2)).block, (ad.add (j * 2)).off + 1, none⟩ = some (.int .i64 (cntM j)) := hc1 1 (by omega) (by omega)
      obtain ⟨v, hv, hcv⟩ := cnt_cell (HGK.out wr HHr.out) hlt
      have hg1r := (HGK.out wr HHr.out).lt
      have HNx : Kept (mk ++ C.nums ((cnts p).take (j + 1)) = (mk ++ C.nums ((cnts p).take j)) ++ V.put (low32 v)) := kp <| by rw [List.take_add_one, hv, Option.toList_some, C.nums_snoc, List.append_assoc]
      have hql : (mk ++ C.nums ((cnts p).take j)).length ≤ 30 := by
        have h1 := C.nums_le ((cnts p).take j)
        rw [List.length_take] at h1
        rw [List.length_append]; omega
      obtain ⟨pa, hpa⟩ : ∃ pa : Addr, (⟨g1, j, none⟩ : Addr) = pa := ⟨_, rfl⟩
      have hpab : pa.block < wr.heap.size := by rw [← hpa]; exact hg1r
      rw [hpa] at hc0' hcv
      generalize mk ++ C.nums ((cnts p).take j) = q at *
      generalize cntM j = m at *
      clear hx hc0 hc1 hv hpa
      go_wp2_with (first
        | ((with_reducible show wpList _ _ _ (⟨some 9, _, _, _, _, _⟩ :: _) _ _); go_must (refine wpList_alloc_zero rfl 80 rfl _ cnt_zero ?_); intro g9 w6 hg9 hk9 hw9; have HK9 := kp hk9; have HW9 := kp hw9; clear hk9 hw9)
        | ((with_reducible show wpList _ _ _ (⟨none, _, _, _, _, _⟩ :: _) _ _); go_must (refine wpList_store_blk rfl 80 (.tmp 9) (.tmp 31) rfl g9 [.pointer (some pa), .int .i64 m] rfl rfl _ _ HK9.out cnt_size rfl (cnt_ones _ _) ?_); intro w7 hk7 hg7' hz7
           have hd0 : w7.cell? ⟨g9, 0, none⟩ = some (.pointer (some pa)) := hk7.cell 0
           have hbw7 : Below wr.heap.size wr w7 := HW9.out.grown hg7' HW9.out.size (by intro k e; cases e; exact hg9)
           have hd1 : w7.cell? pa = some (.int .i64 v) := (hbw7.cell hpab).trans hcv
           have HWr7 : Kept (Wr w7 S g7 q) := kp (HKr.out.below hbw7 fun k h => .inl h)
           have HH7 : Kept (Held S w5 w7) := kp (HHr.out.trans (Held.of_below hbw7 fun k h => by obtain ⟨_, _, _, _, _, _, h6⟩ := HKr.out; exact h6 k h))
           clear hk7 hg7' hz7 hbw7)
        | (go_at_call 34; go_must (refine (wr_num _ g7 q v _ HWr7.out (by omega)).mono ?_); rintro e w8 ⟨rfl, hk8, hh8⟩; have HK8 := kp hk8; have HH8 := kp (HH7.out.trans hh8); clear hk8 hh8))
      go_roundw
      case rel => exact ⟨j + 1, by omega, by go_num, by rw [HNx.out]; exact HK8.out, HH8.out⟩
      case measure => simp [intOf]; omega
    · have hi3 : 3 ≤ i := by omega
      have HKs : Kept (Wr wr S g7 (mk ++ C.nums (cnts p))) := kp <| by
        have h := HKr.out
        rw [List.take_of_length_le (show (cnts p).length ≤ i from hi3)] at h
        exact h
      have hql : (mk ++ C.nums (cnts p)).length ≤ 30 := by
        have h1 := C.nums_le (cnts p)
        have h3 : (cnts p).length = 3 := rfl
        rw [List.length_append]; omega
      obtain ⟨_, _, _, hc3⟩ := pg_cells (HGK.out wr HHr.out)
      obtain ⟨q, hq⟩ : ∃ q, mk ++ C.nums (cnts p) = q := ⟨_, rfl⟩
      have HQ : Kept (q ++ V.put (low32 (p.len : Int)) = hd) := kp <| by rw [← HHd.out, ← hq, List.append_assoc]
      rw [hq] at HKs hql
      clear hq hlt HKr
      go_wp2_with (first
        | (go_at_call 34; go_must (refine (wr_num _ g7 q (p.len : Int) _ HKs.out (by omega)).mono ?_); rintro e w8 ⟨rfl, hk8, hh8⟩
           rw [HQ.out] at hk8
           have HK8 := kp hk8; have HH8 := kp (HHr.out.trans hh8)
           obtain ⟨_, _, _, hd3⟩ := pg_cells (HGK.out w8 (HHr.out.trans hh8))
           clear hk8 hh8 hc3))
      clear hd3
      go_loopw [45] (fun v45 wr => ∃ f : Nat, f ≤ p.len ∧ v45 = .int .i64 f ∧ Wr wr S g7 (hd ++ C.fnsB ((p.fns.take f).map (·.nodes))) ∧ Held S w5 wr) (fun v45 _ => p.len - (intOf v45).toNat)
      case atStart => exact ⟨0, by omega, rfl, by simpa [C.fnsB] using HK8.out, HH8.out⟩
      case round =>
        clear HK8 HH8 HHr HKs
        obtain ⟨f, hf, rfl, hkr, hhr⟩ := hrel
        have HKr := kp hkr; have HHr := kp hhr
        clear hkr hhr
        have hfl : (C.fnsB ((p.fns.take f).map (·.nodes))).length ≤ 20560 := by
          have h1 := C.fnsB_le ((p.fns.take f).map (·.nodes)) fun l hl => by
            obtain ⟨fn, hfn, rfl⟩ := List.mem_map.1 hl
            exact HFn.out fn (List.mem_of_mem_take hfn)
          rw [List.length_map, List.length_take] at h1
          omega
        by_cases hlf : f < p.len
        · obtain ⟨ad, fn, e1, hab0, hx, hok0, hcf⟩ := (HPK.out wr HHr.out).fn hlf
          rw [e1]
          have HX := kp hx
          have hfn64 := HFn.out fn (List.mem_of_getElem? hx)
          have hfnl := hok0.nodes.1.len
          have hflc := hok0.lc; have hfcm := hok0.cm
          unfold maxLen at hfcm
          have hfcm9 : fn.cap ≤ 9223372036854775807 := by omega
          have HNx : Kept (hd ++ C.fnsB ((p.fns.take (f + 1)).map (·.nodes)) = ((hd ++ C.fnsB ((p.fns.take f).map (·.nodes))) ++ V.put (low32 (fn.len : Int))) ++ C.ndsB fn.nodes) := kp <| by
            rw [List.take_add_one, hx, Option.toList_some, List.map_append, List.map_singleton, C.fnsB_snoc]
            unfold C.fnB
            rw [hfnl]
            simp only [List.append_assoc]
          have HFl := kp hfnl
          have HE1 := kp e1
          have hql : (hd ++ C.fnsB ((p.fns.take f).map (·.nodes))).length ≤ 20590 := by rw [List.length_append]; omega
          generalize hd ++ C.fnsB ((p.fns.take f).map (·.nodes)) = q2 at *
          clear hx hok0 e1 hfcm hfl hfnl
          have hfn64' : fn.len ≤ 64 := by rw [← HFl.out]; exact hfn64
          go_wp2_with (first
            | (go_at_call 34; go_must (refine (wr_num _ g7 q2 (fn.len : Int) _ HKr.out (by omega)).mono ?_); rintro e w8 ⟨rfl, hk8, hh8⟩
               have HK8 := kp hk8; have HH8 := kp (HHr.out.trans hh8)
               clear hk8 hh8 hcf))
          have hq3 : (q2 ++ V.put (low32 (fn.len : Int))).length ≤ 20600 := by rw [List.length_append]; have := C.put5 (fn.len : Int); omega
          generalize q2 ++ V.put (low32 (fn.len : Int)) = q3 at *
          go_loopw [54] (fun v54 wq => ∃ i : Nat, i ≤ fn.len ∧ v54 = .int .i64 i ∧ Wr wq S g7 (q3 ++ C.ndsB (fn.nodes.take i)) ∧ Held S w5 wq) (fun v54 _ => fn.len - (intOf v54).toNat)
          case atStart => exact ⟨0, by omega, rfl, by simpa [C.ndsB] using HK8.out, HH8.out⟩
          case round =>
            clear HK8 HH8 HHr HKr
            obtain ⟨i, hi, rfl, hkr, hhr⟩ := hrel
            have HKr := kp hkr; have HHr := kp hhr
            clear hkr hhr
            have hnl : (q3 ++ C.ndsB (fn.nodes.take i)).length ≤ 30000 := by
              have h1 := C.ndsB_le (fn.nodes.take i)
              rw [List.length_take] at h1
              rw [List.length_append]; omega
            by_cases hli : i < fn.len
            · obtain ⟨ad', fn', e1', _, hx', hok', hcf⟩ := (HPK.out wr HHr.out).fn hlf
              rw [HE1.out] at e1'
              cases e1'
              rw [HX.out] at hx'
              cases hx'
              obtain ⟨bd, x, e3, hbb, hy, hxok, hn0, hn1, hn2, hn3⟩ := hok'.nodes.get hli
              rw [e3]
              have HNy : Kept (q3 ++ C.ndsB (fn.nodes.take (i + 1)) = (q3 ++ C.ndsB (fn.nodes.take i)) ++ C.ndB x) := kp <| by rw [List.take_add_one, hy, Option.toList_some, C.ndsB_snoc, List.append_assoc]
              generalize q3 ++ C.ndsB (fn.nodes.take i) = q4 at *
              clear hcf hok' hy hxok e3
              go_wp2_with (first
                | ((with_reducible show wpList _ _ _ (⟨some 13, _, _, _, _, _⟩ :: _) _ _); go_must (refine wpList_alloc_zero rfl 49 rfl _ nd_zero ?_); intro g9 w6 hg9 hk9 hw9; have HK9 := kp hk9; have HW9 := kp hw9; clear hk9 hw9)
                | ((with_reducible show wpList _ _ _ (⟨none, _, _, _, _, _⟩ :: _) _ _); go_must (refine wpList_store_blk rfl 49 (.tmp 13) (.tmp 57) rfl g9 (ndC x) rfl rfl _ _ HK9.out nd_size rfl (nd_ones x) ?_); intro w7 hk7 hg7' hz7
                   have HK7 := kp hk7
                   have hbw7 : Below wr.heap.size wr w7 := HW9.out.grown hg7' HW9.out.size (by intro k e; cases e; exact hg9)
                   have HWr7 : Kept (Wr w7 S g7 q4) := kp (HKr.out.below hbw7 fun k h => .inl h)
                   have HH7 : Kept (Held S w5 w7) := kp (HHr.out.trans (Held.of_below hbw7 fun k h => by obtain ⟨_, _, _, _, _, _, h6⟩ := HKr.out; exact h6 k h))
                   clear hk7 hg7' hz7 hbw7)
                | ((with_reducible show wpList _ _ _ (⟨some 58, _, _, _, _, _⟩ :: _) _ _); go_must (refine wpList_load_blk rfl 49 (.tmp 13) rfl g9 rfl _ (ndC x) _ HK7.out Tryd.underlying49 rfl nd_size ?_))
                | (go_at_call 35; go_must (refine (pc_writeNode _ g7 q4 x _ HWr7.out (by omega)).mono ?_); rintro e w8 ⟨rfl, hk8, hh8⟩; have HK8 := kp hk8; have HH8 := kp (HH7.out.trans hh8); clear hk8 hh8))
              go_roundw
              case rel => exact ⟨i + 1, by omega, by go_num, by rw [HNy.out]; exact HK8.out, HH8.out⟩
              case measure => simp [intOf]; omega
            · have hil : fn.len ≤ i := by omega
              have HKs2 : Kept (Wr wr S g7 (q3 ++ C.ndsB fn.nodes)) := kp <| by
                have h := HKr.out
                rw [List.take_of_length_le (by rw [HFl.out]; exact hil)] at h
                exact h
              clear hli HKr
              go_wp2
              go_roundw
              case rel => exact ⟨f + 1, by omega, by go_num, by rw [HNx.out]; exact HKs2.out, HHr.out⟩
              case measure => simp [intOf]; omega
        · have hfl' : p.len ≤ f := by omega
          have HKe : Kept (Wr wr S g7 (C.pgB (C.dataOf p))) := kp <| by
            have h := HKr.out
            rw [List.take_of_length_le (by rw [HLen.out]; exact hfl')] at h
            rw [HAll.out]
            exact h
          have hle : (C.pgB (C.dataOf p)).length ≤ 30000 := by
            rw [HAll.out, List.length_append]
            rw [List.take_of_length_le (by rw [HLen.out]; exact hfl')] at hfl
            omega
          obtain ⟨all, hall⟩ : ∃ all, C.pgB (C.dataOf p) = all := ⟨_, rfl⟩
          have HAE := kp hall
          rw [hall] at HKe hle
          clear hlf HKr hfl hall HAll
          go_wp2_with (go_at_call 36; go_must (refine (wr_bytes _ g7 all wr HKe.out (by omega)).mono ?_); rintro e w9 ⟨v9, rfl, hown9, hk9, hb9⟩; have HO9 := kp hown9; have HB9 := kp hb9; clear hown9 hk9 hb9)
          go_ret2
          exact ⟨v9, rfl, by rw [HAE.out]; exact HO9.out.less (B' := w.heap.size) (Nat.le_trans hs2 (Nat.le_trans HH5.out.size HHr.out.size)), HEnd.out _ _ HHr.out HB9.out⟩
end Go.Proofs.YtiojobajcnifpaaDoor
