/- A program's bytes, as the document has them, walked: Write. -/
import Derived.Test.YtdnhfpphjpnklaaDoorPk12
import Derived.Test.YtdnhfpphjpnklaaDoorPcodeP4
import Derived.Test.YtdnhfpphjpnklaaDoorPk4
namespace Go.Proofs.YtdnhfpphjpnklaaDoor
open Go.RowKit

/-- A block that is laid for a few elements, wherever. -/
theorem row_at {α : Type} (f : α → Value) (w : World) (l : List α) (cs : Array Value) (hcs : cs.toList = l.map f) (e : TypeId) (fr : Nat × Nat) (g : Nat) (hg : g = w.heap.size) : Row f (w.alloc (.cells cs e fr)) (w.alloc (.cells cs e fr)).heap.size (some ⟨g, 0, none⟩) l.length l := by
  subst hg; exact row_mark f w l cs hcs e fr
theorem in_cast {n : Int} (h : C.In 64 n) : n = ((low32 n : Nat) : Int) ∧ low32 n < 4294967296 := by
  obtain ⟨h1, h2⟩ := h
  unfold low32
  omega
theorem ref_put_in (n : Int) (h : C.In 64 n) (w : World) :
    Calls Tryd.prog 20 #[.int .i64 n] w fun e w' => ∃ A m c, e = .returned (.slice A m c) ∧ 0 < m ∧ m ≤ 5 ∧ Row byteV w' w'.heap.size A m (V.put (low32 n)) ∧ Below w.heap.size w w' := by
  obtain ⟨e1, h2⟩ := in_cast h
  have hp := V.len_put _ h2
  have h5 := V.size_le (low32 n)
  have h0 := V.size_pos (low32 n)
  have hc := ref_put (low32 n) h2 w
  rw [← e1] at hc
  refine hc.mono fun e w' ⟨v, k1, k2, k3⟩ => ?_
  obtain ⟨A, c, rfl, _, _, k4⟩ := k2.bytes
  exact ⟨A, _, c, k1, by omega, by omega, k4, k3⟩

set_option maxRecDepth 1000000 in
set_option maxHeartbeats 16000000 in
theorem ref_write (B : Nat) (p : Pg) (w : World) (hp : p.Ok w B) (hB : B ≤ w.heap.size) (hok : C.PDOk (C.dataOf p)) :
    Calls Tryd.prog 9 #[pgA p] w fun e w' => ∃ v, e = .returned v ∧ Own w' w.heap.size 5 v ((C.pgB (C.dataOf p)).map byteV) ∧ Below w.heap.size w w' := by
  have hlen := hp.row.len
  have hp16 : p.len ≤ 16 := by rw [← hlen]; have := hok.len; unfold C.dataOf at this; simpa using this
  have HFn : Kept (∀ f ∈ p.fns, f.nodes.length ≤ 64 ∧ ∀ x ∈ f.nodes, C.NdOk x) := kp fun f hf => by
    have h := hok.fns f.nodes (List.mem_map.2 ⟨f, hf, rfl⟩)
    exact ⟨h.len, h.nodes⟩
  obtain ⟨L4, hL4⟩ : ∃ L4, ([p.g, p.l, p.s, (p.len : Int)] : List Int) = L4 := ⟨_, rfl⟩
  have hL44 : L4.length = 4 := by rw [← hL4]; rfl
  have HIn4 : Kept (∀ x ∈ L4, C.In 64 x) := kp (by
    intro x hx
    rw [← hL4] at hx
    have h1 := hok.g; have h2 := hok.l; have h3 := hok.s
    unfold C.In C.dataOf at *
    simp only [List.mem_cons, List.not_mem_nil, or_false] at hx
    simp only at h1 h2 h3
    rcases hx with h | h | h | h <;> (subst h; omega))
  have HLen := kp hlen
  have HP := kp hp
  have hlc := hp.lc; have hcm := hp.cm
  unfold maxLen at hcm
  have hcm9 : p.cap ≤ 9223372036854775807 := by omega
  obtain ⟨mk, hmk⟩ : ∃ mk, C.mark = mk := ⟨_, rfl⟩
  have HMk := kp hmk
  have hmk4 : mk.length = 4 := by rw [← hmk]; rfl
  obtain ⟨hd, hhd⟩ : ∃ hd, mk ++ C.nums L4 = hd := ⟨_, rfl⟩
  have HHd := kp hhd
  have hhdl : hd.length ≤ 30 := by rw [← hhd, List.length_append]; have := C.nums_le L4; omega
  have HAll : Kept (C.pgB (C.dataOf p) = hd ++ C.fnsB (p.fns.map (·.nodes))) := kp <| by
    unfold C.pgB C.tailB
    rw [← hhd, ← hmk, ← hL4]
    show C.mark ++ (C.nums [p.g, p.l, p.s] ++ (V.put (low32 ((p.fns.map (·.nodes)).length : Int)) ++ C.fnsB (p.fns.map (·.nodes)))) = _
    rw [List.length_map, hlen, show ([p.g, p.l, p.s, (p.len : Int)] : List Int) = [p.g, p.l, p.s] ++ [(p.len : Int)] from rfl, C.nums_snoc]
    simp only [List.append_assoc]
  have HL4 := kp hL4
  clear hp hlen hok hcm hmk hhd hL4
  rw [pgA_is]
  go_enter Tryd.func9, Tryd.ntmps9
  go_wp2_with (first
    | ((with_reducible refine wpList_box_agg rfl 24 (.tmp 0) rfl (pgC p) rfl ?_); intro g1 w1 hg1 hk1 hw1
       have hcv := Go.Lib.run_convert_bytes_const (P := Tryd.prog) w1 27 5 #[.int .u8 97, .int .u8 108, .int .u8 112, .int .u8 49] 4 4 Tryd.underlying27 Tryd.underlying5
       have HK1 := kp hk1; have HW1 := kp hw1; have hs1 := hw1.size; have hl1 := hk1.lt
       obtain ⟨hc0, hc1, hc2, hc3⟩ := pg_cells (hk1.below (w' := w1.alloc (.cells #[.int .u8 97, .int .u8 108, .int .u8 112, .int .u8 49] 5 (4, 5))) ((Below.refl _ _).alloc (Nat.le_refl _) _) hk1.lt)
       clear hk1 hw1)
    | fail)
  obtain ⟨w4, e4, hr4, hi4, hb4, hz4⟩ : ∃ w4, (w1.alloc (.cells #[.int .u8 97, .int .u8 108, .int .u8 112, .int .u8 49] 5 (4, 5))).alloc (.cells #[.int .i64 p.g, .int .i64 p.l, .int .i64 p.s, .int .i64 (p.len : Int)] 3) = w4 ∧ Row byteV w4 w4.heap.size (some ⟨w1.heap.size, 0, none⟩) 4 mk ∧ Row intV w4 w4.heap.size (some ⟨w1.heap.size + 1, 0, none⟩) 4 L4 ∧ Below w1.heap.size w1 w4 ∧ w1.heap.size ≤ w4.heap.size := by
    refine ⟨_, rfl, ?_, ?_, ?_, by simp; omega⟩
    · have h := row_at byteV w1 C.mark #[.int .u8 97, .int .u8 108, .int .u8 112, .int .u8 49] rfl 5 (4, 5) _ rfl
      rw [HMk.out, hmk4] at h
      exact (h.below ((Below.refl _ _).alloc (Nat.le_refl _) _)).more (by simp)
    · have h := row_at intV (w1.alloc (.cells #[.int .u8 97, .int .u8 108, .int .u8 112, .int .u8 49] 5 (4, 5))) [p.g, p.l, p.s, (p.len : Int)] #[.int .i64 p.g, .int .i64 p.l, .int .i64 p.s, .int .i64 (p.len : Int)] rfl 3 (0, 0) (w1.heap.size + 1) (by simp)
      rw [HL4.out] at h
      rw [hL44] at h
      exact h
    · exact ((Below.refl _ _).alloc (Nat.le_refl _) _).alloc (by simp) _
  rw [e4]
  have HR4 := kp hr4; have HI4 := kp hi4; have HW4 := kp (HW1.out.trans (hb4.mono hs1)); have HK4 := kp (HK1.out.below hb4 hl1)
  have hs4 := HW4.out.size; have hl4 := HK4.out.lt
  have HPK : Kept (∀ W, Below w4.heap.size w4 W → p.Ok W B) := kp fun W hW => HP.out.below ((HW4.out.trans (hW.mono hs4)).mono hB)
  have HGK : Kept (∀ W, Below w4.heap.size w4 W → Blk W g1 24 (pgC p)) := kp fun W hW => HK4.out.below hW hl4
  clear hc0 hc1 hc2 hc3 hcv hr4 hi4 hb4 e4 HK1
  go_loopw [3, 5] (fun v3 v5 wr => ∃ i : Nat, i ≤ 4 ∧ v5 = .int .i64 i ∧ ((i = 0 ∧ v3 = .slice (some ⟨w1.heap.size, 0, none⟩) 4 4) ∨ (0 < i ∧ Own wr w4.heap.size 5 v3 ((mk ++ C.nums (L4.take i)).map byteV))) ∧ Below w4.heap.size w4 wr) (fun _ v5 _ => 4 - (intOf v5).toNat)
  case atStart => exact ⟨0, by omega, rfl, .inl ⟨rfl, rfl⟩, Below.refl _ _⟩
  case round =>
    obtain ⟨i, hi, rfl, hout, hbl⟩ := hrel
    have HBL := kp hbl
    have hszr := hbl.size
    clear hbl
    by_cases hlt : i < 4
    · obtain ⟨ad, x, ea, hab, hx, hcx⟩ := (HI4.out.below HBL.out).get hlt
      rw [ea]
      rw [intV_def] at hcx
      have HX := kp (HIn4.out x (List.mem_of_getElem? hx))
      have HNx : Kept (mk ++ C.nums (L4.take (i + 1)) = (mk ++ C.nums (L4.take i)) ++ V.put (low32 x)) := kp <| by rw [List.take_add_one, hx, Option.toList_some, C.nums_snoc, List.append_assoc]
      have hql : (mk ++ C.nums (L4.take i)).length ≤ 30 := by
        have h1 := C.nums_le (L4.take i)
        rw [List.length_take] at h1
        rw [List.length_append]; omega
      clear hx ea
      rcases hout with ⟨hi0, rfl⟩ | ⟨hi0, hown⟩
      · have HE0 : Kept (mk ++ C.nums (L4.take i) = mk) := kp (by rw [hi0]; simp [C.nums])
        have hi1 : i ≤ 0 := by omega
        have HRr := kp ((HR4.out.below HBL.out).vals)
        clear hi0
        go_wp2_with (first
          | (go_at_call 20; go_must (refine (ref_put_in x HX.out wr).mono ?_); rintro e w5 ⟨A5, m5, c5, rfl, hm0, hml, hr5, hb5⟩
             have HR5 := kp hr5.vals; have HB5 := kp (HBL.out.trans (hb5.mono hszr)); have HR5k := kp (HRr.out.below (hb5.mono hszr))
             have hs5 := HB5.out.size
             clear hr5 hb5)
          | (at_builtin; go_must (refine wpList_append_full rfl (.tmp 27) (.tmp 32) 27 rfl w4.heap.size 5 _ _ Tryd.underlying27 byte_info rfl w5 ⟨w1.heap.size, 0, none⟩ 4 w4.heap.size _ rfl HR5k.out A5 m5 c5 _ _ rfl HR5.out hm0 (by unfold maxLen; omega) (by omega) hs5 ?_); intro v6 w6 hown6 hb6
             rw [← List.map_append] at hown6
             have HOw6 := kp hown6; have HB6 := kp (HB5.out.trans (hb6.mono hs5))
             clear hown6 hb6))
        go_roundw
        case rel => exact ⟨i + 1, by omega, by go_num, .inr ⟨by omega, by rw [HNx.out, HE0.out]; exact HOw6.out⟩, HB6.out⟩
        case measure => simp [intOf]; omega
      · have HOwn := kp hown
        have hql2 := hql
        generalize mk ++ C.nums (L4.take i) = q at *
        clear hown
        go_wp2_with (first
          | (go_at_call 20; go_must (refine (ref_put_in x HX.out wr).mono ?_); rintro e w5 ⟨A5, m5, c5, rfl, hm0, hml, hr5, hb5⟩
             have HR5 := kp hr5.vals; have HB5 := kp (HBL.out.trans (hb5.mono hszr)); have HOw5 := kp (HOwn.out.below hb5 (Nat.le_refl _))
             have hs5 := hb5.size
             clear hr5 hb5)
          | (at_builtin; go_must (refine wpList_append_row rfl (.tmp 27) (.tmp 32) 27 rfl w4.heap.size 5 _ _ Tryd.underlying27 byte_info rfl w5 _ _ rfl HOw5.out A5 m5 c5 _ _ rfl HR5.out (ones _ one_byteV _) (by rw [List.length_map]; unfold maxLen; omega) (by rw [List.length_map]; omega) (by omega) ?_); intro v6 w6 hown6 hg6
             rw [← List.map_append] at hown6
             have HOw6 := kp hown6; have HB6 := kp (hg6.below HB5.out HOw5.out (by omega))
             clear hown6 hg6))
        go_roundw
        case rel => exact ⟨i + 1, by omega, by go_num, .inr ⟨by omega, by rw [HNx.out]; exact HOw6.out⟩, HB6.out⟩
        case measure => simp [intOf]; omega
    · have hi4 : 4 ≤ i := by omega
      rcases hout with ⟨hi0, _⟩ | ⟨_, hown⟩
      · omega
      have HOwn : Kept (Own wr w4.heap.size 5 u3 (hd.map byteV)) := kp (by
        rw [List.take_of_length_le (by omega), HHd.out] at hown
        exact hown)
      clear hown hlt hi
      go_wp2
      go_loopw [3, 6] (fun v3 v6 wq => ∃ f : Nat, f ≤ p.len ∧ v6 = .int .i64 f ∧ Own wq w4.heap.size 5 v3 ((hd ++ C.fnsB ((p.fns.take f).map (·.nodes))).map byteV) ∧ Below w4.heap.size w4 wq) (fun _ v6 _ => p.len - (intOf v6).toNat)
      case atStart => exact ⟨0, by omega, rfl, by simpa [C.fnsB] using HOwn.out, HBL.out⟩
      case round =>
        clear HOwn HBL hszr
        obtain ⟨f, hf, rfl, hown, hbl⟩ := hrel
        have HOwn := kp hown; have HBL := kp hbl
        have hszr := hbl.size
        clear hown hbl
        obtain ⟨_, _, _, hc3⟩ := pg_cells (HGK.out wr HBL.out)
        have hfl : (C.fnsB ((p.fns.take f).map (·.nodes))).length ≤ 20560 := by
          have h1 := C.fnsB_le ((p.fns.take f).map (·.nodes)) fun l hl => by
            obtain ⟨fn, hfn, rfl⟩ := List.mem_map.1 hl
            exact (HFn.out fn (List.mem_of_mem_take hfn)).1
          rw [List.length_map, List.length_take] at h1
          omega
        by_cases hlf : f < p.len
        · obtain ⟨ad, fn, e1, hab0, hx, hok0, hcf⟩ := (HPK.out wr HBL.out).fn hlf
          rw [e1] at hc3 ⊢
          have HE1 := kp e1
          have HX := kp hx
          have hfn64 := (HFn.out fn (List.mem_of_getElem? hx)).1
          have HNds := kp (HFn.out fn (List.mem_of_getElem? hx)).2
          have hfnl := hok0.nodes.1.len
          have hflc := hok0.lc; have hfcm := hok0.cm
          unfold maxLen at hfcm
          have hfcm9 : fn.cap ≤ 9223372036854775807 := by omega
          have HNx : Kept (hd ++ C.fnsB ((p.fns.take (f + 1)).map (·.nodes)) = ((hd ++ C.fnsB ((p.fns.take f).map (·.nodes))) ++ V.put (low32 (fn.len : Int))) ++ C.ndsB fn.nodes) := kp <| by
            rw [List.take_add_one, hx, Option.toList_some, List.map_append, List.map_singleton, C.fnsB_snoc]
            unfold C.fnB
            rw [hfnl]
            simp only [List.append_assoc]
          have HFl := kp hfnl
          have hql : (hd ++ C.fnsB ((p.fns.take f).map (·.nodes))).length ≤ 20590 := by rw [List.length_append]; omega
          generalize hd ++ C.fnsB ((p.fns.take f).map (·.nodes)) = q at *
          have hfn64' : fn.len ≤ 64 := by rw [← HFl.out]; exact hfn64
          have HXL : Kept (C.In 64 (fn.len : Int)) := kp ⟨by omega, by omega⟩
          clear hx hok0 e1 hfcm hfl hfnl
          go_wp2_with (first
            | (go_at_call 20; go_must (refine (ref_put_in (fn.len : Int) HXL.out wr).mono ?_); rintro e w5 ⟨A5, m5, c5, rfl, hm0, hml, hr5, hb5⟩
               have HR5 := kp hr5.vals; have HB5 := kp (HBL.out.trans (hb5.mono hszr)); have HOw5 := kp (HOwn.out.below hb5 (Nat.le_refl _))
               have hs5 := hb5.size
               clear hr5 hb5)
            | (at_builtin; go_must (refine wpList_append_row rfl (.tmp 41) (.tmp 48) 27 rfl w4.heap.size 5 _ _ Tryd.underlying27 byte_info rfl w5 _ _ rfl HOw5.out A5 m5 c5 _ _ rfl HR5.out (ones _ one_byteV _) (by rw [List.length_map]; unfold maxLen; omega) (by rw [List.length_map]; omega) (by omega) ?_); intro v6 w6 hown6 hg6
               rw [← List.map_append] at hown6
               have HOw6 := kp hown6; have HB6 := kp (hg6.below HB5.out HOw5.out (by omega))
               clear hown6 hg6))
          have hq3 : (q ++ V.put (low32 (fn.len : Int))).length ≤ 20600 := by rw [List.length_append]; have := C.put5 (fn.len : Int); omega
          generalize q ++ V.put (low32 (fn.len : Int)) = q3 at *
          clear hc3 hcf
          go_loopw [3, 7] (fun v3 v7 wq => ∃ i : Nat, i ≤ fn.len ∧ v7 = .int .i64 i ∧ Own wq w4.heap.size 5 v3 ((q3 ++ C.ndsB (fn.nodes.take i)).map byteV) ∧ Below w4.heap.size w4 wq) (fun _ v7 _ => fn.len - (intOf v7).toNat)
          case atStart => exact ⟨0, by omega, rfl, by simpa [C.ndsB] using HOw6.out, HB6.out⟩
          case round =>
            clear HOwn HBL hszr HOw5 HB5 HR5 HOw6 HB6 hs5
            obtain ⟨i, hi, rfl, hown, hbl⟩ := hrel
            have HOwn := kp hown; have HBL := kp hbl
            have hszr := hbl.size
            clear hown hbl
            obtain ⟨_, _, _, hc3⟩ := pg_cells (HGK.out wr HBL.out)
            rw [HE1.out] at hc3
            obtain ⟨ad', fn', e1', _, hx', hok', hcf⟩ := (HPK.out wr HBL.out).fn hlf
            rw [HE1.out] at e1'
            cases e1'
            rw [HX.out] at hx'
            cases hx'
            have hnl : (q3 ++ C.ndsB (fn.nodes.take i)).length ≤ 30000 := by
              have h1 := C.ndsB_le (fn.nodes.take i)
              rw [List.length_take] at h1
              rw [List.length_append]; omega
            by_cases hli : i < fn.len
            · obtain ⟨bd, x, e3, hbb, hy, hxok, hn0, hn1, hn2, hn3⟩ := hok'.nodes.get hli
              rw [e3] at hcf
              have HNd := kp (HNds.out x (List.mem_of_getElem? hy))
              have HKi := kp (show C.In 64 x.kind from ⟨HNd.out.kind.1, by have := HNd.out.kind.2; omega⟩)
              obtain ⟨js, hjs⟩ : ∃ js, C.tl x.kind = js := ⟨_, rfl⟩
              obtain ⟨nj, hnj⟩ : ∃ nj, js.length = nj := ⟨_, rfl⟩
              have hnj3 : nj ≤ 3 := by rw [← hnj, ← hjs]; exact C.tl_len _
              obtain ⟨s, hs⟩ : ∃ s, tlS x.kind = s := ⟨_, rfl⟩
              have HS := kp hs
              have hsn : s.size = nj := by rw [← hs, tlS_size, hjs, hnj]
              have HAt : Kept (∀ (q j : Nat), js[q]? = some j → ∀ (h : q < s.size), s[q].toNat = letterOf j) := kp (by
                intro q j hj h
                subst hs
                exact tlS_at _ (by rw [hjs]; exact hj) h)
              have HLe : Kept (∀ j ∈ js, j ≤ 2) := kp (by rw [← hjs]; exact C.tl_le _)
              have HNj := kp hnj
              have HNy : Kept (q3 ++ C.ndsB (fn.nodes.take (i + 1)) = ((q3 ++ C.ndsB (fn.nodes.take i)) ++ V.put (low32 x.kind)) ++ C.nums (js.map (C.fld x))) := kp <| by
                rw [List.take_add_one, hy, Option.toList_some, C.ndsB_snoc]
                unfold C.ndB C.told
                rw [hjs]
                simp only [List.append_assoc]
              have hql : (q3 ++ C.ndsB (fn.nodes.take i)).length ≤ 30000 := hnl
              generalize q3 ++ C.ndsB (fn.nodes.take i) = q4 at *
              clear hok' hy hxok e3 hs hjs hnj hnl
              have hvb : ∀ k, u3.ownBlock = some k → k < wr.heap.size := fun k hk => (HOwn.out.block k hk).2
              go_wp2_with (first
                | ((with_reducible show wpList _ _ _ (⟨some 8, _, _, _, _, _⟩ :: _) _ _); go_must (refine wpList_alloc_zero rfl 39 rfl _ nd_zero ?_); intro gn w7 hgn hk7 hw7; have HK7 := kp hk7; have HW7 := kp hw7; clear hk7 hw7)
                | ((with_reducible show wpList _ _ _ (⟨none, _, _, _, _, _⟩ :: _) _ _); go_must (refine wpList_store_blk rfl 39 (.tmp 8) (.tmp 67) rfl gn (ndC x) rfl rfl _ _ HK7.out nd_size rfl (nd_ones x) ?_); intro w8 hk8 hg8 hz8
                   have HK8 := kp hk8
                   have hbw : Below wr.heap.size wr w8 := HW7.out.grown hg8 HW7.out.size (by intro k e; cases e; exact hgn)
                   have HBw := kp (HBL.out.trans (hbw.mono hszr)); have HOwn8 := kp (HOwn.out.below hbw (Nat.le_refl _))
                   obtain ⟨hk0, _, _, _⟩ := nd_cells hk8
                   have hs8 := hbw.size; have hlgn := hk8.lt
                   have hne8 : u3.ownBlock ≠ some gn := fun e => by have := hvb gn e; omega
                   clear hk8 hg8 hz8 hbw)
                | (go_at_call 20; go_must (refine (ref_put_in x.kind HKi.out w8).mono ?_); rintro e w5 ⟨A5, m5, c5, rfl, hm0, hml, hr5, hb5⟩
                   have HR5 := kp hr5.vals; have HB5 := kp (HBw.out.trans (hb5.mono (by omega))); have HOw5 := kp (HOwn8.out.below hb5 (Nat.le_refl _)); have HK5 := kp (HK8.out.below hb5 hlgn)
                   have hs5 := hb5.size
                   clear hr5 hb5 hk0)
                | (at_builtin; go_must (refine wpList_append_row rfl (.tmp 68) (.tmp 71) 27 rfl w4.heap.size 5 _ _ Tryd.underlying27 byte_info rfl w5 _ _ rfl HOw5.out A5 m5 c5 _ _ rfl HR5.out (ones _ one_byteV _) (by rw [List.length_map]; unfold maxLen; omega) (by rw [List.length_map]; omega) (by omega) ?_); intro v6 w6 hown6 hg6
                   rw [← List.map_append] at hown6
                   have HOw6 := kp hown6
                   have HB6 := kp (hg6.below HB5.out HOw5.out (by omega))
                   have HK6 := kp (HK5.out.grown hg6.1 (fun e => hne8 e.symm))
                   have hne6 : v6.ownBlock ≠ some gn := fun e => by
                     rcases hg6.2 with h | h
                     · exact hne8 (h.symm.trans e)
                     · have := h gn e; omega
                   obtain ⟨hj0, _, _, _⟩ := nd_cells HK6.out
                   have hs6 := hg6.size
                   clear hown6 hg6)
                | (go_at_call 21; go_must (refine (ref_told x.kind s HS.out w6).mono ?_); rintro e w9 ⟨rfl, rfl⟩))
              have hq5 : (q4 ++ V.put (low32 x.kind)).length ≤ 30010 := by rw [List.length_append]; have := C.put5 x.kind; omega
              generalize q4 ++ V.put (low32 x.kind) = q5 at *
              clear hj0
              go_loopw [3, 10] (fun v3 v10 wq => ∃ q : Nat, q ≤ nj ∧ v10 = .int .i64 q ∧ Own wq w4.heap.size 5 v3 ((q5 ++ C.nums ((js.take q).map (C.fld x))).map byteV) ∧ v3.ownBlock ≠ some gn ∧ Blk wq gn 39 (ndC x) ∧ Below w4.heap.size w4 wq) (fun _ v10 _ => nj - (intOf v10).toNat)
              case atStart => exact ⟨0, by omega, rfl, by simpa [C.nums] using HOw6.out, hne6, HK6.out, HB6.out⟩
              case round =>
                clear HOwn HBL hszr HOw5 HB5 HR5 HOw6 HB6 hs5 HK5 HK6 HBw HOwn8 HK8 hs8 hs6 hc3 hcf hn0 hn1 hn2 hn3
                obtain ⟨q, hq, rfl, hown, hne, hblk, hbl⟩ := hrel
                have HOwn := kp hown; have HBL := kp hbl; have HBk := kp hblk
                have hszr := hbl.size
                have hlgr := hblk.lt
                obtain ⟨_, hf0, hf1, hf2⟩ := nd_cells hblk
                clear hown hbl hblk
                by_cases hlq : q < nj
                · obtain ⟨j, hxj⟩ : ∃ j, js[q]? = some j := ⟨_, List.getElem?_eq_getElem (by rw [HNj.out]; exact hlq)⟩
                  have hj2 := HLe.out j (List.mem_of_getElem? hxj)
                  have hqs : q < s.size := by omega
                  have hch := HAt.out q j hxj hqs
                  have HFl64 := kp (HNd.out.fields j hj2)
                  have HNq : Kept (q5 ++ C.nums ((js.take (q + 1)).map (C.fld x)) = (q5 ++ C.nums ((js.take q).map (C.fld x))) ++ V.put (low32 (C.fld x j))) := kp <| by rw [List.take_add_one, hxj, Option.toList_some, List.map_append, List.map_singleton, C.nums_snoc, List.append_assoc]
                  have hql : (q5 ++ C.nums ((js.take q).map (C.fld x))).length ≤ 30100 := by
                    have h1 := C.nums_le ((js.take q).map (C.fld x))
                    rw [List.length_map, List.length_take] at h1
                    rw [List.length_append]; omega
                  generalize q5 ++ C.nums ((js.take q).map (C.fld x)) = q6 at *
                  have hcase : j = 0 ∨ j = 1 ∨ j = 2 := by omega
                  clear hxj hj2
                  rcases hcase with rfl | rfl | rfl
                  · have hch : s[q].toNat = 97 := hch
                    have hvb : ∀ k, u3.ownBlock = some k → k < wr.heap.size := fun k hk => (HOwn.out.block k hk).2
                    go_wp2_with (first
                      | (go_at_call 20; go_must (refine (ref_put_in x.arg HFl64.out wr).mono ?_); rintro e w5 ⟨A5, m5, c5, rfl, hm0, hml, hr5, hb5⟩
                         have HR5 := kp hr5.vals; have HB5 := kp (HBL.out.trans (hb5.mono hszr)); have HOw5 := kp (HOwn.out.below hb5 (Nat.le_refl _)); have HK5 := kp (HBk.out.below hb5 hlgr)
                         have hs5 := hb5.size
                         clear hr5 hb5 hf0 hf1 hf2)
                      | (at_builtin; go_must (refine wpList_append_row rfl (.tmp 92) (.tmp 95) 27 rfl w4.heap.size 5 _ _ Tryd.underlying27 byte_info rfl w5 _ _ rfl HOw5.out A5 m5 c5 _ _ rfl HR5.out (ones _ one_byteV _) (by rw [List.length_map]; unfold maxLen; omega) (by rw [List.length_map]; omega) (by omega) ?_); intro v6 w6 hown6 hg6
                         rw [← List.map_append] at hown6
                         have HOw6 := kp hown6
                         have HB6 := kp (hg6.below HB5.out HOw5.out (by omega))
                         have HK6 := kp (HK5.out.grown hg6.1 (fun e => hne e.symm))
                         have hne6 : v6.ownBlock ≠ some gn := fun e => by
                           rcases hg6.2 with h | h
                           · exact hne (h.symm.trans e)
                           · have := h gn e; omega
                         clear hown6 hg6))
                    go_roundw
                    case rel => exact ⟨q + 1, by omega, by go_num, by rw [HNq.out]; exact HOw6.out, hne6, HK6.out, HB6.out⟩
                    case measure => simp [intOf]; omega
                  · have hch : s[q].toNat = 110 := hch
                    have hvb : ∀ k, u3.ownBlock = some k → k < wr.heap.size := fun k hk => (HOwn.out.block k hk).2
                    go_wp2_with (first
                      | (go_at_call 20; go_must (refine (ref_put_in x.next HFl64.out wr).mono ?_); rintro e w5 ⟨A5, m5, c5, rfl, hm0, hml, hr5, hb5⟩
                         have HR5 := kp hr5.vals; have HB5 := kp (HBL.out.trans (hb5.mono hszr)); have HOw5 := kp (HOwn.out.below hb5 (Nat.le_refl _)); have HK5 := kp (HBk.out.below hb5 hlgr)
                         have hs5 := hb5.size
                         clear hr5 hb5 hf0 hf1 hf2)
                      | (at_builtin; go_must (refine wpList_append_row rfl (.tmp 99) (.tmp 102) 27 rfl w4.heap.size 5 _ _ Tryd.underlying27 byte_info rfl w5 _ _ rfl HOw5.out A5 m5 c5 _ _ rfl HR5.out (ones _ one_byteV _) (by rw [List.length_map]; unfold maxLen; omega) (by rw [List.length_map]; omega) (by omega) ?_); intro v6 w6 hown6 hg6
                         rw [← List.map_append] at hown6
                         have HOw6 := kp hown6
                         have HB6 := kp (hg6.below HB5.out HOw5.out (by omega))
                         have HK6 := kp (HK5.out.grown hg6.1 (fun e => hne e.symm))
                         have hne6 : v6.ownBlock ≠ some gn := fun e => by
                           rcases hg6.2 with h | h
                           · exact hne (h.symm.trans e)
                           · have := h gn e; omega
                         clear hown6 hg6))
                    go_roundw
                    case rel => exact ⟨q + 1, by omega, by go_num, by rw [HNq.out]; exact HOw6.out, hne6, HK6.out, HB6.out⟩
                    case measure => simp [intOf]; omega
                  · have hch : s[q].toNat = 120 := hch
                    have hvb : ∀ k, u3.ownBlock = some k → k < wr.heap.size := fun k hk => (HOwn.out.block k hk).2
                    go_wp2_with (first
                      | (go_at_call 20; go_must (refine (ref_put_in x.alt HFl64.out wr).mono ?_); rintro e w5 ⟨A5, m5, c5, rfl, hm0, hml, hr5, hb5⟩
                         have HR5 := kp hr5.vals; have HB5 := kp (HBL.out.trans (hb5.mono hszr)); have HOw5 := kp (HOwn.out.below hb5 (Nat.le_refl _)); have HK5 := kp (HBk.out.below hb5 hlgr)
                         have hs5 := hb5.size
                         clear hr5 hb5 hf0 hf1 hf2)
                      | (at_builtin; go_must (refine wpList_append_row rfl (.tmp 85) (.tmp 88) 27 rfl w4.heap.size 5 _ _ Tryd.underlying27 byte_info rfl w5 _ _ rfl HOw5.out A5 m5 c5 _ _ rfl HR5.out (ones _ one_byteV _) (by rw [List.length_map]; unfold maxLen; omega) (by rw [List.length_map]; omega) (by omega) ?_); intro v6 w6 hown6 hg6
                         rw [← List.map_append] at hown6
                         have HOw6 := kp hown6
                         have HB6 := kp (hg6.below HB5.out HOw5.out (by omega))
                         have HK6 := kp (HK5.out.grown hg6.1 (fun e => hne e.symm))
                         have hne6 : v6.ownBlock ≠ some gn := fun e => by
                           rcases hg6.2 with h | h
                           · exact hne (h.symm.trans e)
                           · have := h gn e; omega
                         clear hown6 hg6))
                    go_roundw
                    case rel => exact ⟨q + 1, by omega, by go_num, by rw [HNq.out]; exact HOw6.out, hne6, HK6.out, HB6.out⟩
                    case measure => simp [intOf]; omega
                · have hqn : nj ≤ q := by omega
                  have hsq : ¬ q < s.size := by omega
                  have HE : Kept (Own wr w4.heap.size 5 u3 ((q5 ++ C.nums (js.map (C.fld x))).map byteV)) := kp (by
                    have h := HOwn.out
                    rw [List.take_of_length_le (by rw [HNj.out]; exact hqn)] at h
                    exact h)
                  clear hlq
                  go_wp2
                  go_roundw
                  case rel => exact ⟨i + 1, by omega, by go_num, by rw [HNy.out]; exact HE.out, HBL.out⟩
                  case measure => simp [intOf]; omega
            · have hil : fn.len ≤ i := by omega
              have HE : Kept (Own wr w4.heap.size 5 u3 ((q3 ++ C.ndsB fn.nodes).map byteV)) := kp (by
                have h := HOwn.out
                rw [List.take_of_length_le (by rw [HFl.out]; exact hil)] at h
                exact h)
              clear hli HOwn
              go_wp2
              go_roundw
              case rel => exact ⟨f + 1, by omega, by go_num, by rw [HNx.out]; exact HE.out, HBL.out⟩
              case measure => simp [intOf]; omega
        · have hfl' : p.len ≤ f := by omega
          have HE : Kept (Own wr w4.heap.size 5 u3 ((C.pgB (C.dataOf p)).map byteV)) := kp (by
            have h := HOwn.out
            rw [List.take_of_length_le (by rw [HLen.out]; exact hfl'), ← HAll.out] at h
            exact h)
          clear hlf HOwn
          go_wp2
          go_ret
          exact ⟨u3, rfl, HE.out.less hs4, HW4.out.trans (HBL.out.mono hs4)⟩
end Go.Proofs.YtdnhfpphjpnklaaDoor

