/- ShaRef6, ShaRef7, in one text. -/
import Derived.Test.YtdnhfpphjpnklaaDoorShaRef5
/- The rounds of a block, as the document does them, walked. -/
namespace Go.Proofs.YtdnhfpphjpnklaaDoor
open Go.RowKit

set_option maxRecDepth 1000000 in
set_option maxHeartbeats 4000000 in
theorem ref_rounds (ad3 ad7 : Addr) (c3 c7 : Nat) (ws : List Nat) (s : H.St) (w : World) (B3 B7 : Nat) (hk : Row wordV w B3 (some ad3) 64 H.K) (hw : Row wordV w B7 (some ad7) 64 ws) (hwl : ∀ x ∈ ws, x < 4294967296) (hs : s.Small) {Q0 : Exit → Act → World → Prop} (p0 p1 p2 p4 p5 p6 p8 p9 p10 p11 p12 p13 p14 p15 p25 p26 p27 p28 p29 p30 p31 p32 p33 p34 p35 p36 p37 p38 p39 p40 p41 p42 p43 p44 p45 p46 p47 p48 p49 p50 p51 p52 p53 p54 p55 p56 p57 p58 p59 p60 p61 p62 p63 p64 p65 p66 p67 p68 p69 p70 p71 p72 p73 p74 p75 p76 p77 p78 p79 p80 p81 p82 p83 p84 p85 p86 p87 p88 p89 p90 p91 p92 p93 p94 p95 p96 p97 p98 p99 p100 p101 p102 p103 p104 p105 p106 p107 p108 p109 p110 p111 p112 p113 p114 p115 p116 p117 p118 p119 p120 p121 p122 p123 p124 p125 p126 p127 p128 p129 p130 p131 p132 p133 p134 p135 p136 p137 p138 p139 p140 p141 p142 p143 p144 p145 p146 p147 p148 p149 p150 p151 p152 p153 p154 p155 p156 p157 p158 p159 p160 p161 p162 p163 p164 p165 p166 p167 p168 p169 p170 p171 p172 p173 p174 p175 p176 p177 p178 p179 p180 p181 p182 p183 p184 p185 p186 p187 p188 p189 p190 p191 p192 p193 p194 p195 p196 p197 p198 p199 p200 p201 p202 p203 p204 p205 p206 p207 p208 p209 p210 p211 p212 p213 p214 p215 p216 p217 p218 p219 p220 p221 p222 p223 p224 p225 p226 p227 p228 p229 p230 p231 p232 p233 p234 p235 p236 p237 p238 p239 p240 p241 p242 p243 p244 p245 p246 p247 p248 p249 p250 p251 p252 p253 p254 p255 p256 p257 p258 p259 p260 p261 p262 p263 p264 p265 p266 : Value)
    (hexit : ∀ (x24 x25 x26 x138 x139 x140 x141 x142 x143 x144 x145 x146 x147 x148 x149 x150 x151 x152 x153 x154 x155 x156 x157 x158 x159 x160 x161 x162 x163 x164 x165 x166 x167 x168 x169 x170 x171 x172 x173 x174 x175 x176 x177 x178 x179 x180 x181 x182 x183 x184 x185 x186 x187 x188 x189 x190 x191 x192 x193 x194 x195 x196 x197 x198 x199 x200 x201 x202 : Value) (W : World), ∀ n, W = w.drewN n → Q0 (.exit 8) ⟨List.toArray (p0 :: p1 :: p2 :: .slice (some ad3) 64 c3 :: p4 :: p5 :: p6 :: .slice (some ad7) 64 c7 :: p8 :: p9 :: p10 :: p11 :: p12 :: p13 :: p14 :: p15 :: .int .u32 ((H.rnds ws 64 s).a : Int) :: .int .u32 ((H.rnds ws 64 s).b : Int) :: .int .u32 ((H.rnds ws 64 s).c : Int) :: .int .u32 ((H.rnds ws 64 s).d : Int) :: .int .u32 ((H.rnds ws 64 s).e : Int) :: .int .u32 ((H.rnds ws 64 s).f : Int) :: .int .u32 ((H.rnds ws 64 s).g : Int) :: .int .u32 ((H.rnds ws 64 s).h : Int) :: x24 :: x25 :: x26 :: p27 :: p28 :: p29 :: p30 :: p31 :: p32 :: p33 :: p34 :: p35 :: p36 :: p37 :: p38 :: p39 :: p40 :: p41 :: p42 :: p43 :: p44 :: p45 :: p46 :: p47 :: p48 :: p49 :: p50 :: p51 :: p52 :: p53 :: p54 :: p55 :: p56 :: p57 :: p58 :: p59 :: p60 :: p61 :: p62 :: p63 :: p64 :: p65 :: p66 :: p67 :: p68 :: p69 :: p70 :: p71 :: p72 :: p73 :: p74 :: p75 :: p76 :: p77 :: p78 :: p79 :: p80 :: p81 :: p82 :: p83 :: p84 :: p85 :: p86 :: p87 :: p88 :: p89 :: p90 :: p91 :: p92 :: p93 :: p94 :: p95 :: p96 :: p97 :: p98 :: p99 :: p100 :: p101 :: p102 :: p103 :: p104 :: p105 :: p106 :: p107 :: p108 :: p109 :: p110 :: p111 :: p112 :: p113 :: p114 :: p115 :: p116 :: p117 :: p118 :: p119 :: p120 :: p121 :: p122 :: p123 :: p124 :: p125 :: p126 :: p127 :: p128 :: p129 :: p130 :: p131 :: p132 :: p133 :: p134 :: p135 :: p136 :: p137 :: x138 :: x139 :: x140 :: x141 :: x142 :: x143 :: x144 :: x145 :: x146 :: x147 :: x148 :: x149 :: x150 :: x151 :: x152 :: x153 :: x154 :: x155 :: x156 :: x157 :: x158 :: x159 :: x160 :: x161 :: x162 :: x163 :: x164 :: x165 :: x166 :: x167 :: x168 :: x169 :: x170 :: x171 :: x172 :: x173 :: x174 :: x175 :: x176 :: x177 :: x178 :: x179 :: x180 :: x181 :: x182 :: x183 :: x184 :: x185 :: x186 :: x187 :: x188 :: x189 :: x190 :: x191 :: x192 :: x193 :: x194 :: x195 :: x196 :: x197 :: x198 :: x199 :: x200 :: x201 :: x202 :: p203 :: p204 :: p205 :: p206 :: p207 :: p208 :: p209 :: p210 :: p211 :: p212 :: p213 :: p214 :: p215 :: p216 :: p217 :: p218 :: p219 :: p220 :: p221 :: p222 :: p223 :: p224 :: p225 :: p226 :: p227 :: p228 :: p229 :: p230 :: p231 :: p232 :: p233 :: p234 :: p235 :: p236 :: p237 :: p238 :: p239 :: p240 :: p241 :: p242 :: p243 :: p244 :: p245 :: p246 :: p247 :: p248 :: p249 :: p250 :: p251 :: p252 :: p253 :: p254 :: p255 :: p256 :: p257 :: p258 :: p259 :: p260 :: p261 :: p262 :: p263 :: p264 :: p265 :: p266 :: []), []⟩ W) :
    Code.wp Tryd.prog (Code.loop (loopBodyS Tryd.f10 4)) Q0 ⟨List.toArray (p0 :: p1 :: p2 :: .slice (some ad3) 64 c3 :: p4 :: p5 :: p6 :: .slice (some ad7) 64 c7 :: p8 :: p9 :: p10 :: p11 :: p12 :: p13 :: p14 :: p15 :: .int .u32 (s.a : Int) :: .int .u32 (s.b : Int) :: .int .u32 (s.c : Int) :: .int .u32 (s.d : Int) :: .int .u32 (s.e : Int) :: .int .u32 (s.f : Int) :: .int .u32 (s.g : Int) :: .int .u32 (s.h : Int) :: .int .i64 0 :: p25 :: p26 :: p27 :: p28 :: p29 :: p30 :: p31 :: p32 :: p33 :: p34 :: p35 :: p36 :: p37 :: p38 :: p39 :: p40 :: p41 :: p42 :: p43 :: p44 :: p45 :: p46 :: p47 :: p48 :: p49 :: p50 :: p51 :: p52 :: p53 :: p54 :: p55 :: p56 :: p57 :: p58 :: p59 :: p60 :: p61 :: p62 :: p63 :: p64 :: p65 :: p66 :: p67 :: p68 :: p69 :: p70 :: p71 :: p72 :: p73 :: p74 :: p75 :: p76 :: p77 :: p78 :: p79 :: p80 :: p81 :: p82 :: p83 :: p84 :: p85 :: p86 :: p87 :: p88 :: p89 :: p90 :: p91 :: p92 :: p93 :: p94 :: p95 :: p96 :: p97 :: p98 :: p99 :: p100 :: p101 :: p102 :: p103 :: p104 :: p105 :: p106 :: p107 :: p108 :: p109 :: p110 :: p111 :: p112 :: p113 :: p114 :: p115 :: p116 :: p117 :: p118 :: p119 :: p120 :: p121 :: p122 :: p123 :: p124 :: p125 :: p126 :: p127 :: p128 :: p129 :: p130 :: p131 :: p132 :: p133 :: p134 :: p135 :: p136 :: p137 :: p138 :: p139 :: p140 :: p141 :: p142 :: p143 :: p144 :: p145 :: p146 :: p147 :: p148 :: p149 :: p150 :: p151 :: p152 :: p153 :: p154 :: p155 :: p156 :: p157 :: p158 :: p159 :: p160 :: p161 :: p162 :: p163 :: p164 :: p165 :: p166 :: p167 :: p168 :: p169 :: p170 :: p171 :: p172 :: p173 :: p174 :: p175 :: p176 :: p177 :: p178 :: p179 :: p180 :: p181 :: p182 :: p183 :: p184 :: p185 :: p186 :: p187 :: p188 :: p189 :: p190 :: p191 :: p192 :: p193 :: p194 :: p195 :: p196 :: p197 :: p198 :: p199 :: p200 :: p201 :: p202 :: p203 :: p204 :: p205 :: p206 :: p207 :: p208 :: p209 :: p210 :: p211 :: p212 :: p213 :: p214 :: p215 :: p216 :: p217 :: p218 :: p219 :: p220 :: p221 :: p222 :: p223 :: p224 :: p225 :: p226 :: p227 :: p228 :: p229 :: p230 :: p231 :: p232 :: p233 :: p234 :: p235 :: p236 :: p237 :: p238 :: p239 :: p240 :: p241 :: p242 :: p243 :: p244 :: p245 :: p246 :: p247 :: p248 :: p249 :: p250 :: p251 :: p252 :: p253 :: p254 :: p255 :: p256 :: p257 :: p258 :: p259 :: p260 :: p261 :: p262 :: p263 :: p264 :: p265 :: p266 :: []), []⟩ w := by
  have HX := Lib.hid hexit; clear hexit
  conv => arg 2; arg 1; whnf
  have HK := Lib.hid hk; have HW := Lib.hid hw; have HWL := Lib.hid hwl; have HS := Lib.hid hs; clear hk hw hwl hs
  go_loopw [16, 17, 18, 19, 20, 21, 22, 23, 24] (fun u16 u17 u18 u19 u20 u21 u22 u23 u24 wr => ∃ (i : Nat) (n : Nat) (t : H.St), i ≤ 64 ∧ u24 = .int .i64 i ∧ wr = w.drewN n ∧ t = H.rnds ws i s ∧ u16 = .int .u32 (t.a : Int) ∧ u17 = .int .u32 (t.b : Int) ∧ u18 = .int .u32 (t.c : Int) ∧ u19 = .int .u32 (t.d : Int) ∧ u20 = .int .u32 (t.e : Int) ∧ u21 = .int .u32 (t.f : Int) ∧ u22 = .int .u32 (t.g : Int) ∧ u23 = .int .u32 (t.h : Int)) (fun _ _ _ _ _ _ _ _ u24 _ => 64 - (intOf u24).toNat)
  case atStart => exact ⟨0, 0, s, by omega, rfl, rfl, rfl, rfl, rfl, rfl, rfl, rfl, rfl, rfl, rfl⟩
  case round =>
    obtain ⟨i, n, t, hi, rfl, hwr, ht, rfl, rfl, rfl, rfl, rfl, rfl, rfl, rfl⟩ := hrel
    have HT := Lib.hid ht; clear ht
    by_cases hlt : i < 64
    · obtain ⟨_, k, e1, _, hk1, hck⟩ := HK.out.get (k := i) hlt
      cases e1
      obtain ⟨_, x, e2, _, hx1, hcx⟩ := HW.out.get (k := i) hlt
      cases e2
      have hsm : t.Small := by rw [HT.out]; exact H.rnds_small ws s HS.out i
      have HNx : Hid (H.rnds ws (i + 1) s = H.rnd t k x) := by
        show _ = _
        rw [HT.out, H.rnds, List.getD_eq_getElem?_getD, List.getD_eq_getElem?_getD, hk1, hx1]; rfl
      have hk32 : k < 4294967296 := H.K_lt k (List.mem_of_getElem? hk1)
      have hx32 : x < 4294967296 := HWL.out x (List.mem_of_getElem? hx1)
      have hck2 : wr.cell? (ad3.add i) = some (.int .u32 (k : Int)) := by rw [hwr]; exact hck
      have hcx2 : wr.cell? (ad7.add i) = some (.int .u32 (x : Int)) := by rw [hwr]; exact hcx
      have HWR := Lib.hid hwr
      clear hwr hck hcx
      clear hk1 hx1 HT
      obtain ⟨a, b, c, d, e, f, g, h⟩ := t
      obtain ⟨ha, hb, hc, hd, he, hf, hg, hh⟩ := hsm
      simp only at ha hb hc hd he hf hg hh
      go_wp2
      go_quiet ((first | (go_at_call_of 24 (Value.int IntKind.i64 6); exact Calls.quiet_of (ref_r e 6 he (by omega) _)) | (go_at_call_of 24 (Value.int IntKind.i64 11); exact Calls.quiet_of (ref_r e 11 he (by omega) _)) | (go_at_call_of 24 (Value.int IntKind.i64 25); exact Calls.quiet_of (ref_r e 25 he (by omega) _))))
      clear hck2 hcx2
      go_wp2_with (first | (go_at_call_of 24 (Value.int IntKind.i64 2); go_must (refine (ref_r a 2 ha (by omega) _).mono ?_); rintro e' w' ⟨rfl, n2, rfl⟩) | (go_at_call_of 24 (Value.int IntKind.i64 13); go_must (refine (ref_r a 13 ha (by omega) _).mono ?_); rintro e' w' ⟨rfl, n13, rfl⟩) | (go_at_call_of 24 (Value.int IntKind.i64 22); go_must (refine (ref_r a 22 ha (by omega) _).mono ?_); rintro e' w' ⟨rfl, n22, rfl⟩))
      go_round
      case rel =>
        refine ⟨i + 1, _, H.rnd ⟨a, b, c, d, e, f, g, h⟩ k x, by omega, by go_num, by rw [HWR.out, World.drewN_drewN], HNx.out.symm, ?_, rfl, rfl, rfl, ?_, rfl, rfl, rfl⟩
        · rw [H.big1_bits e he, H.ch_bits e f g he hf hg, H.big0_bits a ha, H.maj_bits a b c ha hb hc]
          rfl
        · rw [H.big1_bits e he, H.ch_bits e f g he hf hg]
          rfl
      case measure => simp [intOf]; omega
    · have HWR := Lib.hid hwr
      clear hwr
      have hie : i = 64 := by omega
      subst hie
      have HT2 := HT.out
      subst HT2
      go_wp2
      apply HX.out
      exact HWR.out
end Go.Proofs.YtdnhfpphjpnklaaDoor

/- The first words of a block, as the document makes them, walked. -/
namespace Go.Proofs.YtdnhfpphjpnklaaDoor
open Go.RowKit

set_option maxRecDepth 1000000 in
set_option maxHeartbeats 4000000 in
theorem ref_words (ad5 : Addr) (n5 c5 q B5 B : Nat) (bs : List Nat) (w : World) (hr : Row byteV w B5 (some ad5) n5 bs) (hb : ∀ x ∈ bs, x < 256) (hq : 64 * q + 64 ≤ n5) (hn : n5 ≤ 1000000) (hB5 : B5 ≤ B) (hB : B ≤ w.heap.size) {Q0 : Exit → Act → World → Prop} (p0 p1 p2 p3 p4 p9 p10 p11 p12 p13 p14 p15 p16 p17 p18 p19 p20 p21 p22 p23 p24 p25 p26 p27 p28 p29 p30 p31 p32 p33 p34 p35 p36 p37 p38 p39 p40 p41 p42 p43 p44 p45 p46 p47 p48 p49 p50 p51 p52 p53 p54 p55 p56 p57 p58 p59 p60 p61 p62 p63 p64 p65 p66 p67 p68 p69 p70 p71 p72 p73 p74 p75 p76 p77 p78 p79 p80 p81 p82 p83 p84 p85 p86 p87 p88 p89 p90 p91 p92 p93 p94 p95 p96 p97 p98 p99 p100 p101 p102 p103 p104 p105 p106 p107 p108 p109 p110 p111 p112 p113 p114 p115 p116 p117 p118 p119 p120 p121 p122 p123 p124 p125 p126 p127 p128 p129 p130 p131 p132 p133 p134 p135 p136 p137 p138 p139 p140 p141 p142 p143 p144 p145 p146 p147 p148 p149 p150 p151 p152 p153 p154 p155 p156 p157 p158 p159 p160 p161 p162 p163 p164 p165 p166 p167 p168 p169 p170 p171 p172 p173 p174 p175 p176 p177 p178 p179 p180 p181 p182 p183 p184 p185 p186 p187 p188 p189 p190 p191 p192 p193 p194 p195 p196 p197 p198 p199 p200 p201 p202 p203 p204 p205 p206 p207 p208 p209 p210 p211 p212 p213 p214 p215 p216 p217 p218 p219 p220 p221 p222 p223 p224 p225 p226 p227 p228 p229 p230 p231 p232 p233 p234 p235 p236 p237 p238 p239 p240 p241 p242 p243 p244 p245 p246 p247 p248 p249 p250 p251 p252 p253 p254 p255 p256 p257 p258 p259 p260 p261 p262 p263 p264 p265 p266 : Value)
    (hexit : ∀ (x8 x9 x10 x41 x42 x43 x44 x45 x46 x47 x48 x49 x50 x51 x52 x53 x54 x55 x56 x57 x58 x59 x60 x61 x62 x63 x64 x65 : Value) (W : World), ∀ v7x, Own W B 66 v7x ((H.words ((bs.drop (64 * q)).take 64) 16).map wordV) → Below B w W → Q0 (.exit 2) ⟨List.toArray (p0 :: p1 :: p2 :: p3 :: p4 :: .slice (some ad5) n5 c5 :: .int .i64 ((64 * q : Nat) : Int) :: v7x :: x8 :: x9 :: x10 :: p11 :: p12 :: p13 :: p14 :: p15 :: p16 :: p17 :: p18 :: p19 :: p20 :: p21 :: p22 :: p23 :: p24 :: p25 :: p26 :: p27 :: p28 :: p29 :: p30 :: p31 :: p32 :: p33 :: p34 :: p35 :: p36 :: p37 :: p38 :: p39 :: p40 :: x41 :: x42 :: x43 :: x44 :: x45 :: x46 :: x47 :: x48 :: x49 :: x50 :: x51 :: x52 :: x53 :: x54 :: x55 :: x56 :: x57 :: x58 :: x59 :: x60 :: x61 :: x62 :: x63 :: x64 :: x65 :: p66 :: p67 :: p68 :: p69 :: p70 :: p71 :: p72 :: p73 :: p74 :: p75 :: p76 :: p77 :: p78 :: p79 :: p80 :: p81 :: p82 :: p83 :: p84 :: p85 :: p86 :: p87 :: p88 :: p89 :: p90 :: p91 :: p92 :: p93 :: p94 :: p95 :: p96 :: p97 :: p98 :: p99 :: p100 :: p101 :: p102 :: p103 :: p104 :: p105 :: p106 :: p107 :: p108 :: p109 :: p110 :: p111 :: p112 :: p113 :: p114 :: p115 :: p116 :: p117 :: p118 :: p119 :: p120 :: p121 :: p122 :: p123 :: p124 :: p125 :: p126 :: p127 :: p128 :: p129 :: p130 :: p131 :: p132 :: p133 :: p134 :: p135 :: p136 :: p137 :: p138 :: p139 :: p140 :: p141 :: p142 :: p143 :: p144 :: p145 :: p146 :: p147 :: p148 :: p149 :: p150 :: p151 :: p152 :: p153 :: p154 :: p155 :: p156 :: p157 :: p158 :: p159 :: p160 :: p161 :: p162 :: p163 :: p164 :: p165 :: p166 :: p167 :: p168 :: p169 :: p170 :: p171 :: p172 :: p173 :: p174 :: p175 :: p176 :: p177 :: p178 :: p179 :: p180 :: p181 :: p182 :: p183 :: p184 :: p185 :: p186 :: p187 :: p188 :: p189 :: p190 :: p191 :: p192 :: p193 :: p194 :: p195 :: p196 :: p197 :: p198 :: p199 :: p200 :: p201 :: p202 :: p203 :: p204 :: p205 :: p206 :: p207 :: p208 :: p209 :: p210 :: p211 :: p212 :: p213 :: p214 :: p215 :: p216 :: p217 :: p218 :: p219 :: p220 :: p221 :: p222 :: p223 :: p224 :: p225 :: p226 :: p227 :: p228 :: p229 :: p230 :: p231 :: p232 :: p233 :: p234 :: p235 :: p236 :: p237 :: p238 :: p239 :: p240 :: p241 :: p242 :: p243 :: p244 :: p245 :: p246 :: p247 :: p248 :: p249 :: p250 :: p251 :: p252 :: p253 :: p254 :: p255 :: p256 :: p257 :: p258 :: p259 :: p260 :: p261 :: p262 :: p263 :: p264 :: p265 :: p266 :: []), []⟩ W) :
    Code.wp Tryd.prog (Code.loop (loopBodyS Tryd.f10 1)) Q0 ⟨List.toArray (p0 :: p1 :: p2 :: p3 :: p4 :: .slice (some ad5) n5 c5 :: .int .i64 ((64 * q : Nat) : Int) :: .slice none 0 0 :: .int .i64 0 :: p9 :: p10 :: p11 :: p12 :: p13 :: p14 :: p15 :: p16 :: p17 :: p18 :: p19 :: p20 :: p21 :: p22 :: p23 :: p24 :: p25 :: p26 :: p27 :: p28 :: p29 :: p30 :: p31 :: p32 :: p33 :: p34 :: p35 :: p36 :: p37 :: p38 :: p39 :: p40 :: p41 :: p42 :: p43 :: p44 :: p45 :: p46 :: p47 :: p48 :: p49 :: p50 :: p51 :: p52 :: p53 :: p54 :: p55 :: p56 :: p57 :: p58 :: p59 :: p60 :: p61 :: p62 :: p63 :: p64 :: p65 :: p66 :: p67 :: p68 :: p69 :: p70 :: p71 :: p72 :: p73 :: p74 :: p75 :: p76 :: p77 :: p78 :: p79 :: p80 :: p81 :: p82 :: p83 :: p84 :: p85 :: p86 :: p87 :: p88 :: p89 :: p90 :: p91 :: p92 :: p93 :: p94 :: p95 :: p96 :: p97 :: p98 :: p99 :: p100 :: p101 :: p102 :: p103 :: p104 :: p105 :: p106 :: p107 :: p108 :: p109 :: p110 :: p111 :: p112 :: p113 :: p114 :: p115 :: p116 :: p117 :: p118 :: p119 :: p120 :: p121 :: p122 :: p123 :: p124 :: p125 :: p126 :: p127 :: p128 :: p129 :: p130 :: p131 :: p132 :: p133 :: p134 :: p135 :: p136 :: p137 :: p138 :: p139 :: p140 :: p141 :: p142 :: p143 :: p144 :: p145 :: p146 :: p147 :: p148 :: p149 :: p150 :: p151 :: p152 :: p153 :: p154 :: p155 :: p156 :: p157 :: p158 :: p159 :: p160 :: p161 :: p162 :: p163 :: p164 :: p165 :: p166 :: p167 :: p168 :: p169 :: p170 :: p171 :: p172 :: p173 :: p174 :: p175 :: p176 :: p177 :: p178 :: p179 :: p180 :: p181 :: p182 :: p183 :: p184 :: p185 :: p186 :: p187 :: p188 :: p189 :: p190 :: p191 :: p192 :: p193 :: p194 :: p195 :: p196 :: p197 :: p198 :: p199 :: p200 :: p201 :: p202 :: p203 :: p204 :: p205 :: p206 :: p207 :: p208 :: p209 :: p210 :: p211 :: p212 :: p213 :: p214 :: p215 :: p216 :: p217 :: p218 :: p219 :: p220 :: p221 :: p222 :: p223 :: p224 :: p225 :: p226 :: p227 :: p228 :: p229 :: p230 :: p231 :: p232 :: p233 :: p234 :: p235 :: p236 :: p237 :: p238 :: p239 :: p240 :: p241 :: p242 :: p243 :: p244 :: p245 :: p246 :: p247 :: p248 :: p249 :: p250 :: p251 :: p252 :: p253 :: p254 :: p255 :: p256 :: p257 :: p258 :: p259 :: p260 :: p261 :: p262 :: p263 :: p264 :: p265 :: p266 :: []), []⟩ w := by
  have HX := Lib.hid hexit; clear hexit
  conv => arg 2; arg 1; whnf
  have HR := Lib.hid hr; have HN := Lib.hid hb; clear hr hb
  generalize hblk : (bs.drop (64 * q)).take 64 = blk at *
  have HBlk := Lib.hid hblk; clear hblk
  go_loopw [7, 8] (fun u7 u8 wr => ∃ i : Nat, i ≤ 16 ∧ u8 = .int .i64 i ∧ Own wr B 66 u7 ((H.words blk i).map wordV) ∧ Below B w wr) (fun _ u8 _ => 16 - (intOf u8).toNat)
  case atStart => exact ⟨0, by omega, rfl, Own.nil _ _ _, Below.refl _ _⟩
  case round =>
    obtain ⟨i, hi, rfl, hown, hbl⟩ := hrel
    have HOwn := Lib.hid hown; have HBL := Lib.hid hbl
    have hB2 : B ≤ wr.heap.size := Nat.le_trans hB hbl.size
    clear hown hbl
    by_cases hlt : i < 16
    · go_wp2
      go_loop [9, 10] (fun u9 u10 => ∃ j : Nat, j ≤ 4 ∧ u10 = .int .i64 j ∧ u9 = .int .u32 ((H.word ((blk.drop (4 * i)).take j) : Nat) : Int)) (fun _ u10 => 4 - (intOf u10).toNat)
      case atStart => exact ⟨0, by omega, rfl, rfl⟩
      case round =>
        obtain ⟨j, hj, rfl, rfl⟩ := hrel
        by_cases hj4 : j < 4
        · obtain ⟨_, x, e1, hab, hx1, hcx⟩ := (HR.out.below (HBL.out.mono hB5)).get (k := 64 * q + 4 * i + j) (by omega)
          cases e1
          have hx8 : x < 256 := HN.out x (List.mem_of_getElem? hx1)
          have hxb : blk[4 * i + j]? = some x := by
            rw [← HBlk.out, List.getElem?_take, if_pos (by omega), List.getElem?_drop, ← Nat.add_assoc]; exact hx1
          have HST := Lib.hid (H.word_step blk i j x hxb)
          have hwl := H.word_lt ((blk.drop (4 * i)).take j)
          rw [byteV_def] at hcx
          clear hx1 hxb hab
          generalize H.word ((blk.drop (4 * i)).take j) = y at *
          go_wp2
          go_round
          case rel => exact ⟨j + 1, by omega, by go_num, by rw [HST.out]; congr 1; omega⟩
          case measure => simp [intOf]; omega
        · have hje : j = 4 := by omega
          subst hje
          have HWS := Lib.hid (H.words_succ blk i)
          generalize H.word ((blk.drop (4 * i)).take 4) = y at *
          go_wp2_with (at_builtin; go_must (refine wpList_append_one rfl (.tmp 62) (.tmp 64) 63 rfl B 66 _ _ Tryd.underlying63 word_info rfl _ _ ((H.words blk i).map wordV) _ rfl HOwn.out _ 1 rfl rfl rfl (by simp [H.words_len, maxLen]; omega) (by simp [H.words_len]; omega) hB2 ?_); intro v8 w8 hown8 hg8; have HO8 := Lib.hid hown8; clear hown8; have HG8 := Lib.hid hg8; clear hg8)
          go_roundw
          case rel => exact ⟨i + 1, by omega, by go_num, by rw [HWS.out, List.map_append]; exact HO8.out, HG8.out.below HBL.out HOwn.out hB2⟩
          case measure => simp [intOf]; omega
    · have hie : i = 16 := by omega
      subst hie
      go_wp2
      apply HX.out
      · exact HOwn.out
      · exact HBL.out
end Go.Proofs.YtdnhfpphjpnklaaDoor
