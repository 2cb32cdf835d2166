/- The words of a block, as the document makes them, walked. -/
import Derived.Test.YtdnhfpphjpnklaaDoorPk14
import Derived.Test.YtdnhfpphjpnklaaDoorPk5
import Derived.Deep.QuietTactic
import Derived.BigQuiet
import Derived.Deep.RegionWith
namespace Go.Proofs.YtdnhfpphjpnklaaDoor
open Go.RowKit

theorem below_draws {B : Nat} {a w : World} (h : Below B a w) (n : Nat) : Below B a (w.drewN n) := ⟨h.os, h.tape, h.output, h.size, h.block⟩

/-- The bodies of all loops of a code, an outer one first. -/
def loopsOfS : Code → List Code
  | .loop c => c :: loopsOfS c
  | .seq a b => loopsOfS a ++ loopsOfS b
  | .block _ c => loopsOfS c
  | .scope c => loopsOfS c
  | .cond _ a b => loopsOfS a ++ loopsOfS b
  | _ => []
noncomputable def loopBodyS (f : Func) (i : Nat) : Code := (loopsOfS (f.body.getD .skip)).getD i .skip

set_option maxRecDepth 1000000 in
set_option maxHeartbeats 4000000 in
theorem ref_sched (B : Nat) (ws : List Nat) (hws : ws.length = 16) (hlt : ∀ x ∈ ws, x < 4294967296) (v7 : Value) (w : World) (hown : Own w B 66 v7 (ws.map wordV)) (hB : B ≤ w.heap.size) {Q0 : Exit → Act → World → Prop} (p0 p1 p2 p3 p4 p5 p6 p8 p9 p10 p12 p13 p14 p15 p16 p17 p18 p19 p20 p21 p22 p23 p24 p25 p26 p27 p28 p29 p30 p31 p32 p33 p34 p35 p36 p37 p38 p39 p40 p41 p42 p43 p44 p45 p46 p47 p48 p49 p50 p51 p52 p53 p54 p55 p56 p57 p58 p59 p60 p61 p62 p63 p64 p65 p66 p67 p68 p69 p70 p71 p72 p73 p74 p75 p76 p77 p78 p79 p80 p81 p82 p83 p84 p85 p86 p87 p88 p89 p90 p91 p92 p93 p94 p95 p96 p97 p98 p99 p100 p101 p102 p103 p104 p105 p106 p107 p108 p109 p110 p111 p112 p113 p114 p115 p116 p117 p118 p119 p120 p121 p122 p123 p124 p125 p126 p127 p128 p129 p130 p131 p132 p133 p134 p135 p136 p137 p138 p139 p140 p141 p142 p143 p144 p145 p146 p147 p148 p149 p150 p151 p152 p153 p154 p155 p156 p157 p158 p159 p160 p161 p162 p163 p164 p165 p166 p167 p168 p169 p170 p171 p172 p173 p174 p175 p176 p177 p178 p179 p180 p181 p182 p183 p184 p185 p186 p187 p188 p189 p190 p191 p192 p193 p194 p195 p196 p197 p198 p199 p200 p201 p202 p203 p204 p205 p206 p207 p208 p209 p210 p211 p212 p213 p214 p215 p216 p217 p218 p219 p220 p221 p222 p223 p224 p225 p226 p227 p228 p229 p230 p231 p232 p233 p234 p235 p236 p237 p238 p239 p240 p241 p242 p243 p244 p245 p246 p247 p248 p249 p250 p251 p252 p253 p254 p255 p256 p257 p258 p259 p260 p261 p262 p263 p264 p265 p266 : Value)
    (hexit : ∀ (x11 x12 x13 x14 x15 x66 x67 x68 x69 x70 x71 x72 x73 x74 x75 x76 x77 x78 x79 x80 x81 x82 x83 x84 x85 x86 x87 x88 x89 x90 x91 x92 x93 x94 x95 x96 x97 x98 x99 x100 x101 x102 x103 x104 x105 x106 x107 x108 x109 x110 x111 x112 x113 : Value) (W : World), ∀ v7x, Own W B 66 v7x ((H.sched 48 ws).map wordV) → Below B w W → Q0 (.exit 6) ⟨List.toArray (p0 :: p1 :: p2 :: p3 :: p4 :: p5 :: p6 :: v7x :: p8 :: p9 :: p10 :: x11 :: x12 :: x13 :: x14 :: x15 :: p16 :: p17 :: p18 :: p19 :: p20 :: p21 :: p22 :: p23 :: p24 :: p25 :: p26 :: p27 :: p28 :: p29 :: p30 :: p31 :: p32 :: p33 :: p34 :: p35 :: p36 :: p37 :: p38 :: p39 :: p40 :: p41 :: p42 :: p43 :: p44 :: p45 :: p46 :: p47 :: p48 :: p49 :: p50 :: p51 :: p52 :: p53 :: p54 :: p55 :: p56 :: p57 :: p58 :: p59 :: p60 :: p61 :: p62 :: p63 :: p64 :: p65 :: x66 :: x67 :: x68 :: x69 :: x70 :: x71 :: x72 :: x73 :: x74 :: x75 :: x76 :: x77 :: x78 :: x79 :: x80 :: x81 :: x82 :: x83 :: x84 :: x85 :: x86 :: x87 :: x88 :: x89 :: x90 :: x91 :: x92 :: x93 :: x94 :: x95 :: x96 :: x97 :: x98 :: x99 :: x100 :: x101 :: x102 :: x103 :: x104 :: x105 :: x106 :: x107 :: x108 :: x109 :: x110 :: x111 :: x112 :: x113 :: p114 :: p115 :: p116 :: p117 :: p118 :: p119 :: p120 :: p121 :: p122 :: p123 :: p124 :: p125 :: p126 :: p127 :: p128 :: p129 :: p130 :: p131 :: p132 :: p133 :: p134 :: p135 :: p136 :: p137 :: p138 :: p139 :: p140 :: p141 :: p142 :: p143 :: p144 :: p145 :: p146 :: p147 :: p148 :: p149 :: p150 :: p151 :: p152 :: p153 :: p154 :: p155 :: p156 :: p157 :: p158 :: p159 :: p160 :: p161 :: p162 :: p163 :: p164 :: p165 :: p166 :: p167 :: p168 :: p169 :: p170 :: p171 :: p172 :: p173 :: p174 :: p175 :: p176 :: p177 :: p178 :: p179 :: p180 :: p181 :: p182 :: p183 :: p184 :: p185 :: p186 :: p187 :: p188 :: p189 :: p190 :: p191 :: p192 :: p193 :: p194 :: p195 :: p196 :: p197 :: p198 :: p199 :: p200 :: p201 :: p202 :: p203 :: p204 :: p205 :: p206 :: p207 :: p208 :: p209 :: p210 :: p211 :: p212 :: p213 :: p214 :: p215 :: p216 :: p217 :: p218 :: p219 :: p220 :: p221 :: p222 :: p223 :: p224 :: p225 :: p226 :: p227 :: p228 :: p229 :: p230 :: p231 :: p232 :: p233 :: p234 :: p235 :: p236 :: p237 :: p238 :: p239 :: p240 :: p241 :: p242 :: p243 :: p244 :: p245 :: p246 :: p247 :: p248 :: p249 :: p250 :: p251 :: p252 :: p253 :: p254 :: p255 :: p256 :: p257 :: p258 :: p259 :: p260 :: p261 :: p262 :: p263 :: p264 :: p265 :: p266 :: []), []⟩ W) :
    Code.wp Tryd.prog (Code.loop (loopBodyS Tryd.f10 3)) Q0 ⟨List.toArray (p0 :: p1 :: p2 :: p3 :: p4 :: p5 :: p6 :: v7 :: p8 :: p9 :: p10 :: .int .i64 16 :: p12 :: p13 :: p14 :: p15 :: p16 :: p17 :: p18 :: p19 :: p20 :: p21 :: p22 :: p23 :: p24 :: p25 :: p26 :: p27 :: p28 :: p29 :: p30 :: p31 :: p32 :: p33 :: p34 :: p35 :: p36 :: p37 :: p38 :: p39 :: p40 :: p41 :: p42 :: p43 :: p44 :: p45 :: p46 :: p47 :: p48 :: p49 :: p50 :: p51 :: p52 :: p53 :: p54 :: p55 :: p56 :: p57 :: p58 :: p59 :: p60 :: p61 :: p62 :: p63 :: p64 :: p65 :: p66 :: p67 :: p68 :: p69 :: p70 :: p71 :: p72 :: p73 :: p74 :: p75 :: p76 :: p77 :: p78 :: p79 :: p80 :: p81 :: p82 :: p83 :: p84 :: p85 :: p86 :: p87 :: p88 :: p89 :: p90 :: p91 :: p92 :: p93 :: p94 :: p95 :: p96 :: p97 :: p98 :: p99 :: p100 :: p101 :: p102 :: p103 :: p104 :: p105 :: p106 :: p107 :: p108 :: p109 :: p110 :: p111 :: p112 :: p113 :: p114 :: p115 :: p116 :: p117 :: p118 :: p119 :: p120 :: p121 :: p122 :: p123 :: p124 :: p125 :: p126 :: p127 :: p128 :: p129 :: p130 :: p131 :: p132 :: p133 :: p134 :: p135 :: p136 :: p137 :: p138 :: p139 :: p140 :: p141 :: p142 :: p143 :: p144 :: p145 :: p146 :: p147 :: p148 :: p149 :: p150 :: p151 :: p152 :: p153 :: p154 :: p155 :: p156 :: p157 :: p158 :: p159 :: p160 :: p161 :: p162 :: p163 :: p164 :: p165 :: p166 :: p167 :: p168 :: p169 :: p170 :: p171 :: p172 :: p173 :: p174 :: p175 :: p176 :: p177 :: p178 :: p179 :: p180 :: p181 :: p182 :: p183 :: p184 :: p185 :: p186 :: p187 :: p188 :: p189 :: p190 :: p191 :: p192 :: p193 :: p194 :: p195 :: p196 :: p197 :: p198 :: p199 :: p200 :: p201 :: p202 :: p203 :: p204 :: p205 :: p206 :: p207 :: p208 :: p209 :: p210 :: p211 :: p212 :: p213 :: p214 :: p215 :: p216 :: p217 :: p218 :: p219 :: p220 :: p221 :: p222 :: p223 :: p224 :: p225 :: p226 :: p227 :: p228 :: p229 :: p230 :: p231 :: p232 :: p233 :: p234 :: p235 :: p236 :: p237 :: p238 :: p239 :: p240 :: p241 :: p242 :: p243 :: p244 :: p245 :: p246 :: p247 :: p248 :: p249 :: p250 :: p251 :: p252 :: p253 :: p254 :: p255 :: p256 :: p257 :: p258 :: p259 :: p260 :: p261 :: p262 :: p263 :: p264 :: p265 :: p266 :: []), []⟩ w := by
  have HX := Lib.hid hexit; clear hexit
  conv => arg 2; arg 1; whnf
  have HO := Lib.hid hown; have HW := Lib.hid hws; have HLT := Lib.hid hlt; clear hown hws hlt
  go_loopw [7, 11] (fun u7 u11 wr => ∃ k : Nat, 16 ≤ k ∧ k ≤ 64 ∧ u11 = .int .i64 k ∧ Own wr B 66 u7 ((H.sched (k - 16) ws).map wordV) ∧ Below B w wr) (fun _ u11 _ => 64 - (intOf u11).toNat)
  case atStart => exact ⟨16, by omega, by omega, rfl, HO.out, Below.refl _ _⟩
  case round =>
    obtain ⟨k, hk1, hk2, rfl, hown, hbl⟩ := hrel
    have HOwn := Lib.hid hown; have HBL := Lib.hid hbl
    have hB2 : B ≤ wr.heap.size := Nat.le_trans hB hbl.size
    clear hown hbl
    by_cases hlt : k < 64
    · have hsl : (H.sched (k - 16) ws).length = k := by rw [H.sched_len, HW.out]; omega
      have hbd := H.sched_lt ws HLT.out (k - 16)
      have hmore : H.sched (k + 1 - 16) ws = H.more (H.sched (k - 16) ws) := by rw [show k + 1 - 16 = (k - 16) + 1 by omega]; rfl
      generalize H.sched (k - 16) ws = sc at *
      obtain ⟨A, c, rfl, hc1, hc2, hrow⟩ := HOwn.out.readsN hsl
      obtain ⟨ad, x, rfl, hab, hx1, hcx⟩ := hrow.get (k := k - 15) (by omega)
      obtain ⟨_, y, e1, _, hy1, hcy⟩ := hrow.get (k := k - 2) (by omega)
      cases e1
      obtain ⟨_, p, e2, _, hp1, hcp⟩ := hrow.get (k := k - 16) (by omega)
      cases e2
      obtain ⟨_, q, e3, _, hq1, hcq⟩ := hrow.get (k := k - 7) (by omega)
      cases e3
      have hx : x < 4294967296 := hbd x (List.mem_of_getElem? hx1)
      have hy : y < 4294967296 := hbd y (List.mem_of_getElem? hy1)
      have hp : p < 4294967296 := hbd p (List.mem_of_getElem? hp1)
      have hq : q < 4294967296 := hbd q (List.mem_of_getElem? hq1)
      have HM := Lib.hid (hmore.trans (H.more_at sc k p x q y hsl hp1 hx1 hq1 hy1))
      have HCP := Lib.hid hcp; have HCQ := Lib.hid hcq
      have HAB := Lib.hid hab
      have HX0 := Lib.hid (H.s0_bits x hx)
      have HY1 := Lib.hid (H.s1_bits y hy)
      have HLen := Lib.hid hsl
      rw [wordV_def] at hcx hcy
      clear hx1 hy1 hp1 hq1 hcp hcq hmore hsl hbd hrow hab
      unfold maxLen at hc2
      go_wp2
      go_quiet (fail)
      clear hcx hcy
      go_wp2_with (first | (go_at_call_of 24 (Value.int IntKind.i64 7); go_must (refine (ref_r x 7 hx (by omega) _).mono ?_); rintro e w' ⟨rfl, n7, rfl⟩) | (go_at_call_of 24 (Value.int IntKind.i64 18); go_must (refine (ref_r x 18 hx (by omega) _).mono ?_); rintro e w' ⟨rfl, n18, rfl⟩) | (go_at_call_of 24 (Value.int IntKind.i64 17); go_must (refine (ref_r y 17 hy (by omega) _).mono ?_); rintro e w' ⟨rfl, n17, rfl⟩) | (go_at_call_of 24 (Value.int IntKind.i64 19); go_must (refine (ref_r y 19 hy (by omega) _).mono ?_); rintro e w' ⟨rfl, n19, rfl⟩))
      rw [HX0.out, HY1.out]
      have hs0 := H.s0_lt x hx
      have hs1 := H.s1_lt y hy
      apply region_tail 17 [.is _, .is _, .is _, .is _, .is _, .is _, .is _, .is _, .is _, .is _, .is _, .is _, .is _, .is _, .is _, .is _, .vals [Value.int .u32 (((((p : Int) + ((H.s0 x : Nat) : Int)) % 4294967296 + (q : Int)) % 4294967296 + ((H.s1 y : Nat) : Int)) % 4294967296)]]
        [[], [], [], [(2, 98)], [(1, 97), (3, 99)], [(4, 100)], [], [(5, 101), (6, 102)], [], [], [(9, 105)], [(8, 104), (10, 106)], [(11, 107)], [(7, 103), (12, 108)], [], [(13, 109), (14, 110)], [(15, 111)], [(0, 96), (16, 112)], [(17, 113)]]
        [(0, 96), (1, 97), (2, 98), (3, 99), (4, 100), (5, 101), (6, 102), (7, 103), (8, 104), (9, 105), (10, 106), (11, 107), (12, 108), (13, 109), (14, 110), (15, 111), (16, 112)] (by kernel_rfl) (by kernel_rfl) (by kernel_rfl) (by kernel_rfl) (by kernel_rfl)
      case hob =>
        refine ⟨?o0, ?o1, ?o2, ?o3, ?o4, ?o5, ?o6, ?o7, ?o8, ?o9, ?o10, ?o11, ?o12, ?o13, ?o14, ?o15, ?o16, trivial⟩
        case o0 => intro W hW; change wpList _ _ _ _ _ _; go_wp2; exact pure_post rfl rfl rfl
        case o1 => intro W hW; change wpList _ _ _ _ _ _; go_wp2; exact pure_post rfl rfl rfl
        case o2 => intro W hW; change wpList _ _ _ _ _ _; go_wp2; exact pure_post rfl rfl rfl
        case o3 => intro W hW; rintro _ rfl; change wpList _ _ _ _ _ _; go_wp2; exact pure_post rfl rfl rfl
        case o4 => intro W hW; rintro _ rfl; rintro _ rfl; change wpList _ _ _ _ _ _; go_wp2; exact pure_post rfl rfl rfl
        case o5 =>
          intro W hW; rintro _ rfl; change wpList _ _ _ _ _ _
          have hc := (Below.cell hW (p := ad.add (k - 16)) (by rw [add_block]; exact HAB.out)).trans HCP.out
          rw [wordV_def] at hc
          go_wp2; exact pure_post rfl rfl rfl
        case o6 => intro W hW; change wpList _ _ _ _ _ _; go_wp2; exact pure_post rfl rfl rfl
        case o7 => intro W hW; rintro _ rfl; rintro _ rfl; change wpList _ _ _ _ _ _; go_wp2; exact pure_post rfl rfl rfl
        case o8 => intro W hW; change wpList _ _ _ _ _ _; go_wp2; exact pure_post rfl rfl rfl
        case o9 => intro W hW; change wpList _ _ _ _ _ _; go_wp2; exact pure_post rfl rfl rfl
        case o10 => intro W hW; rintro _ rfl; change wpList _ _ _ _ _ _; go_wp2; exact pure_post rfl rfl rfl
        case o11 => intro W hW; rintro _ rfl; rintro _ rfl; change wpList _ _ _ _ _ _; go_wp2; exact pure_post rfl rfl rfl
        case o12 =>
          intro W hW; rintro _ rfl; change wpList _ _ _ _ _ _
          have hc := (Below.cell hW (p := ad.add (k - 7)) (by rw [add_block]; exact HAB.out)).trans HCQ.out
          rw [wordV_def] at hc
          go_wp2; exact pure_post rfl rfl rfl
        case o13 => intro W hW; rintro _ rfl; rintro _ rfl; change wpList _ _ _ _ _ _; go_wp2; exact pure_post rfl rfl rfl
        case o14 => intro W hW; change wpList _ _ _ _ _ _; go_wp2; exact pure_post rfl rfl rfl
        case o15 => intro W hW; rintro _ rfl; rintro _ rfl; change wpList _ _ _ _ _ _; go_wp2; exact pure_post rfl rfl rfl
        case o16 =>
          intro W hW; rintro _ rfl; change wpList _ _ _ _ _ _
          go_wp2
          exact made_post rfl rfl rfl ((Below.refl _ _).alloc (Nat.le_refl _) _) ⟨_, _, rfl, Row.made (fun u => u) W [_] _ rfl _⟩
      case hend =>
        intro W hW; rintro _ rfl; rintro _ rfl; rintro _ rfl; rintro _ rfl; rintro _ rfl; rintro _ rfl; rintro _ rfl; rintro _ rfl; rintro _ rfl; rintro _ rfl; rintro _ rfl; rintro _ rfl; rintro _ rfl; rintro _ rfl; rintro _ rfl; rintro _ rfl; rintro _ ⟨A16, c16, rfl, hr16⟩
        simp only [given, put_lit, List.set, List.drop]
        have HOW := Lib.hid (Own.below (w := wr.drewN _) HOwn.out hW (Nat.le_refl _))
        have HVR := Lib.hid hr16
        clear hr16
        have hBW : B ≤ W.heap.size := Nat.le_trans hB2 hW.size
        have HBW := Lib.hid ((below_draws HBL.out _).trans (Below.mono (w := wr.drewN _) hW hB2))
        go_wp2_with (at_builtin; go_must (refine wpList_append_row rfl (.tmp 96) (.tmp 112) 63 rfl B 66 _ _ Tryd.underlying63 word_info rfl _ _ _ rfl HOW.out A16 _ c16 _ _ rfl HVR.out (by intro u hu; rw [List.mem_singleton] at hu; subst hu; rfl) (by simp [HLen.out, maxLen]; omega) (by simp [HLen.out]; omega) hBW ?_); intro v8 w8 hown8 hg8; have HO8 := Lib.hid hown8; clear hown8; have HG8 := Lib.hid hg8; clear hg8)
        go_roundw
        case rel =>
          refine ⟨k + 1, by omega, by omega, by go_num, ?_, HG8.out.below HBW.out HOW.out hBW⟩
          rw [HM.out, List.map_append]
          have h := HO8.out
          rw [show Value.int .u32 (((((p : Int) + ((H.s0 x : Nat) : Int)) % 4294967296 + (q : Int)) % 4294967296 + ((H.s1 y : Nat) : Int)) % 4294967296) = wordV ((((p + H.s0 x) % 4294967296 + q) % 4294967296 + H.s1 y) % 4294967296) by unfold wordV; congr 1] at h
          exact h
        case measure => simp [intOf]; omega
    · have hke : k = 64 := by omega
      subst hke
      go_wp2
      apply HX.out
      · exact HOwn.out
      · exact HBL.out
end Go.Proofs.YtdnhfpphjpnklaaDoor
