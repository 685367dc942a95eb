/- Laws that the last text leans on. -/
import Derived.Test.YtpingbiibbmcaaaGreatDoorQ19

set_option maxRecDepth 20000
set_option maxHeartbeats 1000000
namespace Go.Proofs.YtpingbiibbmcaaaGreatDoor
namespace Se
open Go Go.RowKit Rw YtpingbiibbmcaaaGreatDoor.So
theorem x0y (base:Nat) (s t:Int) (vA:Value) (vB:Value) (w:World) (hA:Nds w vA (flat (.over s))) (hB:Nds w vB (flat (.over t))) (hbs:base≤w.heap.size) (hl:sz (.over s)+sz (.over t)≤900) :
    Calls Tryz.prog 210 #[.agg #[.int .i64 7,.string ⟨#[]⟩,.int .i64 0],vA,vB] w (OutB base (.over (Sg.both s t)) w):=by
  have HL:Hid (sz (.over s)+sz (.over t)≤900):=Lib.hid hl;have HB:=Lib.hid hbs;have AA:=Lib.hid (fun w1 (hb:Below w.heap.size w w1)=>hA.below hb);obtain ⟨bA,oA,cA,rfl,hcA,hltA,hwA,hatA⟩:=z1w hA;obtain ⟨nA,hnA⟩:∃ n,sz (.over s)=n+1:=⟨sz (.over s)-1,by have:=z0e (.over s); omega⟩
  rw [hnA] at hcA AA ⊢;clear hnA;have g3A:(1:Int)≤(nA:Int)+1:=by omega
  rw [show kd (.over s)=11 from rfl,show sg (.over s)=s from rfl,show nmT (.over s)=⟨#[]⟩ from rfl] at hwA;have AB:=Lib.hid (fun w1 (hb:Below w.heap.size w w1)=>hB.below hb);obtain ⟨bB,oB,cB,rfl,hcB,hltB,hwB,hatB⟩:=z1w hB;obtain ⟨nB,hnB⟩:∃ n,sz (.over t)=n+1:=⟨sz (.over t)-1,by have:=z0e (.over t); omega⟩
  rw [hnB] at hcB AB ⊢;clear hnB;have g3B:(1:Int)≤(nB:Int)+1:=by omega
  rw [show kd (.over t)=11 from rfl,show sg (.over t)=t from rfl,show nmT (.over t)=⟨#[]⟩ from rfl] at hwB;obtain ⟨X,hX⟩:∃ X,Sg.both s t=X:=⟨_,rfl⟩
  rw [hX];have HX:=Lib.hid hX;clear hX;unfold OutB;clear hl hbs hatA hA hatB hB
  go_enter Tryz.func210,Tryz.ntmps210
  go_wp2_with fail;have BW0:=z0b w (.cells #[.int .i64 7,.string ⟨#[]⟩,.int .i64 0] 68);have BC:=z0m w 7 0 ⟨#[]⟩ 68;generalize w.alloc (.cells #[.int .i64 7,.string ⟨#[]⟩,.int .i64 0] 68)=W at BW0 BC ⊢;have BW:=Lib.hid BW0
  have SW:Hid (∀ w',Below W.heap.size W w'→w'.cell? ⟨bA,oA,none⟩=some (.int .i64 11)∧w'.cell? ⟨bA,oA+1,none⟩=some (.string ⟨#[]⟩)∧w'.cell? ⟨bA,oA+2,none⟩=some (.int .i64 s)∧w'.cell? ⟨bB,oB,none⟩=some (.int .i64 11)∧w'.cell? ⟨bB,oB+1,none⟩=some (.string ⟨#[]⟩)∧w'.cell? ⟨bB,oB+2,none⟩=some (.int .i64 t)∧w'.cell? ⟨w.heap.size,0,none⟩=some (.int .i64 7)∧w'.cell? ⟨w.heap.size,1,none⟩=some (.string ⟨#[]⟩)∧w'.cell? ⟨w.heap.size,2,none⟩=some (.int .i64 0)):=Lib.hid fun w1 hb=>by
    obtain ⟨x0,x1,x2⟩:=hwA w1 (BW.out.trans (hb.mono BW.out.size));obtain ⟨x3,x4,x5⟩:=hwB w1 (BW.out.trans (hb.mono BW.out.size));obtain ⟨x6,x7,x8⟩:=BC w1 hb;exact ⟨x0,x1,x2,x3,x4,x5,x6,x7,x8⟩
  clear BW0 BC hwA hwB;have e:=SW.out _ (Below.refl _ _);obtain ⟨e0,e1,e2,e3,e4,e5,e6,e7,e8⟩:=e
  go_still_tail 8,(by kernel_rfl)
  change wpList _ _ _ _ _ W.drew;go_wp2_with fail;refine (Sg.z6m _ _ _).mono ?_;rw [HX.out];rintro e w1 ⟨rfl,rfl⟩;have D1:Hid (Below W.heap.size W W.drew):=Lib.hid (Below.refl _ _).drew;go_wp2_with fail;refine (z1e X _).mono ?_;rintro e w2 ⟨rfl,hb2⟩;have D2:=Lib.hid ((D1.out).trans (hb2.mono (D1.out).size));clear hb2;go_wp2_with fail;refine (mkP0 base 11 X (.over X) rfl _ (Nat.le_trans HB.out (Nat.le_trans BW.out.size D2.out.size))).mono ?_;rintro e w3 ⟨y3,rfl,hn3,hb3⟩;obtain ⟨_,ay3,cy3,rfl,-⟩:=id hn3;have D3:=Lib.hid ((D2.out).trans (hb3.mono (D2.out).size));have N3:=Lib.hid hn3;clear hn3 hb3;go_wp2_with fail;go_ret;exact ⟨_,rfl,N3.out,BW.out.trans ((D3.out).mono BW.out.size)⟩
theorem y7q (base:Nat) (a d:Tm) (vA:Value) (vB:Value) (w:World) (hA:Nds w vA (flat a)) (hB:Nds w vB (flat d)) (qA11:kd a≠11) (qA14:kd a≠14) (hbs:base≤w.heap.size) (hl:sz a+sz d≤900) :
    Calls Tryz.prog 210 #[.agg #[.int .i64 7,.string ⟨#[]⟩,.int .i64 0],vA,vB] w (OutB base (.par a d) w):=by
  have HL:Hid (sz a+sz d≤900):=Lib.hid hl;have HB:=Lib.hid hbs;have AA:=Lib.hid (fun w1 (hb:Below w.heap.size w w1)=>hA.below hb);obtain ⟨bA,oA,cA,rfl,hcA,hltA,hwA,hatA⟩:=z1w hA;obtain ⟨nA,hnA⟩:∃ n,sz a=n+1:=⟨sz a-1,by have:=z0e a; omega⟩
  rw [hnA] at hcA AA ⊢;clear hnA;have g3A:(1:Int)≤(nA:Int)+1:=by omega
  have fA11:(kd a==11)=false:=by rw [beq_eq_false_iff_ne]; exact qA11
  have fA14:(kd a==14)=false:=by rw [beq_eq_false_iff_ne]; exact qA14
  obtain ⟨kA,hkA⟩:∃ k,kd a=k:=⟨_,rfl⟩
  obtain ⟨sA,hsA⟩:∃ s,sg a=s:=⟨_,rfl⟩
  obtain ⟨mA,hmA⟩:∃ m,nmT a=m:=⟨_,rfl⟩
  rw [hkA] at hwA fA11 qA11 fA14 qA14;rw [hsA,hmA] at hwA;clear hkA hsA hmA;have AB:=Lib.hid (fun w1 (hb:Below w.heap.size w w1)=>hB.below hb);obtain ⟨bB,oB,cB,rfl,hcB,hltB,hwB,hatB⟩:=z1w hB;obtain ⟨nB,hnB⟩:∃ n,sz d=n+1:=⟨sz d-1,by have:=z0e d; omega⟩
  rw [hnB] at hcB AB ⊢;clear hnB;have g3B:(1:Int)≤(nB:Int)+1:=by omega
  obtain ⟨kB,hkB⟩:∃ k,kd d=k:=⟨_,rfl⟩
  obtain ⟨sB,hsB⟩:∃ s,sg d=s:=⟨_,rfl⟩
  obtain ⟨mB,hmB⟩:∃ m,nmT d=m:=⟨_,rfl⟩
  rw [hkB] at hwB;rw [hsB,hmB] at hwB;clear hkB hsB hmB;obtain ⟨X,hX⟩:∃ X,Sg.both sA sB=X:=⟨_,rfl⟩
  skip
  have HX:=Lib.hid hX;clear hX;unfold OutB;clear hl hbs qA11 qA14 hatA hA hatB hB
  go_enter Tryz.func210,Tryz.ntmps210
  go_wp2_with fail;have BW0:=z0b w (.cells #[.int .i64 7,.string ⟨#[]⟩,.int .i64 0] 68);have BC:=z0m w 7 0 ⟨#[]⟩ 68;generalize w.alloc (.cells #[.int .i64 7,.string ⟨#[]⟩,.int .i64 0] 68)=W at BW0 BC ⊢;have BW:=Lib.hid BW0
  have SW:Hid (∀ w',Below W.heap.size W w'→w'.cell? ⟨bA,oA,none⟩=some (.int .i64 kA)∧w'.cell? ⟨bA,oA+1,none⟩=some (.string mA)∧w'.cell? ⟨bA,oA+2,none⟩=some (.int .i64 sA)∧w'.cell? ⟨bB,oB,none⟩=some (.int .i64 kB)∧w'.cell? ⟨bB,oB+1,none⟩=some (.string mB)∧w'.cell? ⟨bB,oB+2,none⟩=some (.int .i64 sB)∧w'.cell? ⟨w.heap.size,0,none⟩=some (.int .i64 7)∧w'.cell? ⟨w.heap.size,1,none⟩=some (.string ⟨#[]⟩)∧w'.cell? ⟨w.heap.size,2,none⟩=some (.int .i64 0)):=Lib.hid fun w1 hb=>by
    obtain ⟨x0,x1,x2⟩:=hwA w1 (BW.out.trans (hb.mono BW.out.size));obtain ⟨x3,x4,x5⟩:=hwB w1 (BW.out.trans (hb.mono BW.out.size));obtain ⟨x6,x7,x8⟩:=BC w1 hb;exact ⟨x0,x1,x2,x3,x4,x5,x6,x7,x8⟩
  clear BW0 BC hwA hwB;have e:=SW.out _ (Below.refl _ _);obtain ⟨e0,e1,e2,e3,e4,e5,e6,e7,e8⟩:=e
  go_still_tail 8,(by kernel_rfl)
  change wpList _ _ _ _ _ W.drew;go_wp2_with fail;refine (Sg.z6m _ _ _).mono ?_;rw [HX.out];rintro e w1 ⟨rfl,rfl⟩;have D1:Hid (Below W.heap.size W W.drew):=Lib.hid (Below.refl _ _).drew;go_wp2_with fail;refine (mkP2 base 7 0 (.par a d) a d rfl _ _ _ _ (AA.out _ (BW.out.trans ((D1.out).mono BW.out.size))) (AB.out _ (BW.out.trans ((D1.out).mono BW.out.size))) (by have:=HL.out; simp only [sz] at *; omega) (Nat.le_trans HB.out (Nat.le_trans BW.out.size D1.out.size))).mono ?_;rintro e w2 ⟨y2,rfl,hn2,hb2⟩;obtain ⟨_,ay2,cy2,rfl,-⟩:=id hn2;have D2:=Lib.hid ((D1.out).trans (hb2.mono (D1.out).size));have N2:=Lib.hid hn2;clear hn2 hb2;go_wp2_with fail;go_ret;exact ⟨_,rfl,N2.out,BW.out.trans ((D2.out).mono BW.out.size)⟩
theorem v3w (base:Nat) (s:Int) (d:Tm) (vA:Value) (vB:Value) (w:World) (hA:Nds w vA (flat (.over s))) (hB:Nds w vB (flat d)) (qB11:kd d≠11) (hbs:base≤w.heap.size) (hl:sz (.over s)+sz d≤900) :
    Calls Tryz.prog 210 #[.agg #[.int .i64 7,.string ⟨#[]⟩,.int .i64 0],vA,vB] w (OutB base (.par (.over s) d) w):=by
  have HL:Hid (sz (.over s)+sz d≤900):=Lib.hid hl;have HB:=Lib.hid hbs;have AA:=Lib.hid (fun w1 (hb:Below w.heap.size w w1)=>hA.below hb);obtain ⟨bA,oA,cA,rfl,hcA,hltA,hwA,hatA⟩:=z1w hA;obtain ⟨nA,hnA⟩:∃ n,sz (.over s)=n+1:=⟨sz (.over s)-1,by have:=z0e (.over s); omega⟩
  rw [hnA] at hcA AA ⊢;clear hnA;have g3A:(1:Int)≤(nA:Int)+1:=by omega
  rw [show kd (.over s)=11 from rfl,show sg (.over s)=s from rfl,show nmT (.over s)=⟨#[]⟩ from rfl] at hwA;have AB:=Lib.hid (fun w1 (hb:Below w.heap.size w w1)=>hB.below hb);obtain ⟨bB,oB,cB,rfl,hcB,hltB,hwB,hatB⟩:=z1w hB;obtain ⟨nB,hnB⟩:∃ n,sz d=n+1:=⟨sz d-1,by have:=z0e d; omega⟩
  rw [hnB] at hcB AB ⊢;clear hnB;have g3B:(1:Int)≤(nB:Int)+1:=by omega
  have fB11:(kd d==11)=false:=by rw [beq_eq_false_iff_ne]; exact qB11
  obtain ⟨kB,hkB⟩:∃ k,kd d=k:=⟨_,rfl⟩
  obtain ⟨sB,hsB⟩:∃ s,sg d=s:=⟨_,rfl⟩
  obtain ⟨mB,hmB⟩:∃ m,nmT d=m:=⟨_,rfl⟩
  rw [hkB] at hwB fB11 qB11;rw [hsB,hmB] at hwB;clear hkB hsB hmB;obtain ⟨X,hX⟩:∃ X,Sg.both s sB=X:=⟨_,rfl⟩
  skip
  have HX:=Lib.hid hX;clear hX;unfold OutB;clear hl hbs hatA hA qB11 hatB hB
  go_enter Tryz.func210,Tryz.ntmps210
  go_wp2_with fail;have BW0:=z0b w (.cells #[.int .i64 7,.string ⟨#[]⟩,.int .i64 0] 68);have BC:=z0m w 7 0 ⟨#[]⟩ 68;generalize w.alloc (.cells #[.int .i64 7,.string ⟨#[]⟩,.int .i64 0] 68)=W at BW0 BC ⊢;have BW:=Lib.hid BW0
  have SW:Hid (∀ w',Below W.heap.size W w'→w'.cell? ⟨bA,oA,none⟩=some (.int .i64 11)∧w'.cell? ⟨bA,oA+1,none⟩=some (.string ⟨#[]⟩)∧w'.cell? ⟨bA,oA+2,none⟩=some (.int .i64 s)∧w'.cell? ⟨bB,oB,none⟩=some (.int .i64 kB)∧w'.cell? ⟨bB,oB+1,none⟩=some (.string mB)∧w'.cell? ⟨bB,oB+2,none⟩=some (.int .i64 sB)∧w'.cell? ⟨w.heap.size,0,none⟩=some (.int .i64 7)∧w'.cell? ⟨w.heap.size,1,none⟩=some (.string ⟨#[]⟩)∧w'.cell? ⟨w.heap.size,2,none⟩=some (.int .i64 0)):=Lib.hid fun w1 hb=>by
    obtain ⟨x0,x1,x2⟩:=hwA w1 (BW.out.trans (hb.mono BW.out.size));obtain ⟨x3,x4,x5⟩:=hwB w1 (BW.out.trans (hb.mono BW.out.size));obtain ⟨x6,x7,x8⟩:=BC w1 hb;exact ⟨x0,x1,x2,x3,x4,x5,x6,x7,x8⟩
  clear BW0 BC hwA hwB;have e:=SW.out _ (Below.refl _ _);obtain ⟨e0,e1,e2,e3,e4,e5,e6,e7,e8⟩:=e
  go_still_tail 8,(by kernel_rfl)
  change wpList _ _ _ _ _ W.drew;go_wp2_with fail;refine (Sg.z6m _ _ _).mono ?_;rw [HX.out];rintro e w1 ⟨rfl,rfl⟩;have D1:Hid (Below W.heap.size W W.drew):=Lib.hid (Below.refl _ _).drew;go_wp2_with fail;refine (mkP2 base 7 0 (.par (.over s) d) (.over s) d rfl _ _ _ _ (AA.out _ (BW.out.trans ((D1.out).mono BW.out.size))) (AB.out _ (BW.out.trans ((D1.out).mono BW.out.size))) (by have:=HL.out; simp only [sz] at *; omega) (Nat.le_trans HB.out (Nat.le_trans BW.out.size D1.out.size))).mono ?_;rintro e w2 ⟨y2,rfl,hn2,hb2⟩;obtain ⟨_,ay2,cy2,rfl,-⟩:=id hn2;have D2:=Lib.hid ((D1.out).trans (hb2.mono (D1.out).size));have N2:=Lib.hid hn2;clear hn2 hb2;go_wp2_with fail;go_ret;exact ⟨_,rfl,N2.out,BW.out.trans ((D2.out).mono BW.out.size)⟩
theorem v3v (base:Nat) (s:Int) (c d:Tm) (vA:Value) (vB:Value) (w:World) (hA:Nds w vA (flat (.fin s c))) (hB:Nds w vB (flat d)) (qB14:kd d≠14) (hbs:base≤w.heap.size) (hl:sz (.fin s c)+sz d≤900) :
    Calls Tryz.prog 210 #[.agg #[.int .i64 7,.string ⟨#[]⟩,.int .i64 0],vA,vB] w (OutB base (.par (.fin s c) d) w):=by
  have HL:Hid (sz (.fin s c)+sz d≤900):=Lib.hid hl;have HB:=Lib.hid hbs;have AA:=Lib.hid (fun w1 (hb:Below w.heap.size w w1)=>hA.below hb);obtain ⟨bA,oA,cA,rfl,hcA,hltA,hwA,hatA⟩:=z1w hA;have TA:=Lib.hid (fun w1 (hb:Below w.heap.size w w1)=>(z0w hatA hcA).below hb);have hzA:sz (.fin s c)=sz c+1:=rfl;rw [hzA] at hcA AA ⊢;obtain ⟨nA,hnA⟩:∃ n,sz c=n:=⟨_,rfl⟩
  have hqA:=z0e c;rw [hnA] at hcA TA AA hqA ⊢;have g2A:¬ cA=1:=by omega
  clear hnA hzA;have g3A:(1:Int)≤(nA:Int)+1:=by omega
  rw [show kd (.fin s c)=14 from rfl,show sg (.fin s c)=s from rfl,show nmT (.fin s c)=⟨#[]⟩ from rfl] at hwA;have AB:=Lib.hid (fun w1 (hb:Below w.heap.size w w1)=>hB.below hb);obtain ⟨bB,oB,cB,rfl,hcB,hltB,hwB,hatB⟩:=z1w hB;obtain ⟨nB,hnB⟩:∃ n,sz d=n+1:=⟨sz d-1,by have:=z0e d; omega⟩
  rw [hnB] at hcB AB ⊢;clear hnB;have g3B:(1:Int)≤(nB:Int)+1:=by omega
  have fB14:(kd d==14)=false:=by rw [beq_eq_false_iff_ne]; exact qB14
  obtain ⟨kB,hkB⟩:∃ k,kd d=k:=⟨_,rfl⟩
  obtain ⟨sB,hsB⟩:∃ s,sg d=s:=⟨_,rfl⟩
  obtain ⟨mB,hmB⟩:∃ m,nmT d=m:=⟨_,rfl⟩
  rw [hkB] at hwB fB14 qB14;rw [hsB,hmB] at hwB;clear hkB hsB hmB;obtain ⟨X,hX⟩:∃ X,Sg.both s sB=X:=⟨_,rfl⟩
  skip
  have HX:=Lib.hid hX;clear hX;unfold OutB;clear hl hbs hatA hA qB14 hatB hB
  go_enter Tryz.func210,Tryz.ntmps210
  go_wp2_with fail;have BW0:=z0b w (.cells #[.int .i64 7,.string ⟨#[]⟩,.int .i64 0] 68);have BC:=z0m w 7 0 ⟨#[]⟩ 68;generalize w.alloc (.cells #[.int .i64 7,.string ⟨#[]⟩,.int .i64 0] 68)=W at BW0 BC ⊢;have BW:=Lib.hid BW0
  have SW:Hid (∀ w',Below W.heap.size W w'→w'.cell? ⟨bA,oA,none⟩=some (.int .i64 14)∧w'.cell? ⟨bA,oA+1,none⟩=some (.string ⟨#[]⟩)∧w'.cell? ⟨bA,oA+2,none⟩=some (.int .i64 s)∧w'.cell? ⟨bB,oB,none⟩=some (.int .i64 kB)∧w'.cell? ⟨bB,oB+1,none⟩=some (.string mB)∧w'.cell? ⟨bB,oB+2,none⟩=some (.int .i64 sB)∧w'.cell? ⟨w.heap.size,0,none⟩=some (.int .i64 7)∧w'.cell? ⟨w.heap.size,1,none⟩=some (.string ⟨#[]⟩)∧w'.cell? ⟨w.heap.size,2,none⟩=some (.int .i64 0)):=Lib.hid fun w1 hb=>by
    obtain ⟨x0,x1,x2⟩:=hwA w1 (BW.out.trans (hb.mono BW.out.size));obtain ⟨x3,x4,x5⟩:=hwB w1 (BW.out.trans (hb.mono BW.out.size));obtain ⟨x6,x7,x8⟩:=BC w1 hb;exact ⟨x0,x1,x2,x3,x4,x5,x6,x7,x8⟩
  clear BW0 BC hwA hwB;have e:=SW.out _ (Below.refl _ _);obtain ⟨e0,e1,e2,e3,e4,e5,e6,e7,e8⟩:=e
  go_still_tail 8,(by kernel_rfl)
  change wpList _ _ _ _ _ W.drew;go_wp2_with fail;refine (Sg.z6m _ _ _).mono ?_;rw [HX.out];rintro e w1 ⟨rfl,rfl⟩;have D1:Hid (Below W.heap.size W W.drew):=Lib.hid (Below.refl _ _).drew;go_wp2_with fail;refine (mkP2 base 7 0 (.par (.fin s c) d) (.fin s c) d rfl _ _ _ _ (AA.out _ (BW.out.trans ((D1.out).mono BW.out.size))) (AB.out _ (BW.out.trans ((D1.out).mono BW.out.size))) (by have:=HL.out; simp only [sz] at *; omega) (Nat.le_trans HB.out (Nat.le_trans BW.out.size D1.out.size))).mono ?_;rintro e w2 ⟨y2,rfl,hn2,hb2⟩;obtain ⟨_,ay2,cy2,rfl,-⟩:=id hn2;have D2:=Lib.hid ((D1.out).trans (hb2.mono (D1.out).size));have N2:=Lib.hid hn2;clear hn2 hb2;go_wp2_with fail;go_ret;exact ⟨_,rfl,N2.out,BW.out.trans ((D2.out).mono BW.out.size)⟩
theorem x6u (base:Nat) (s t:Int) (c d:Tm) (vA:Value) (vB:Value) (w:World) (hA:Nds w vA (flat (.fin s c))) (hB:Nds w vB (flat (.fin t d))) (hbs:base≤w.heap.size) (hl:sz (.fin s c)+sz (.fin t d)≤900) :
    Calls Tryz.prog 210 #[.agg #[.int .i64 7,.string ⟨#[]⟩,.int .i64 0],vA,vB] w (OutB base (.fin (Sg.both s t) (.par c d)) w):=by
  have HL:Hid (sz (.fin s c)+sz (.fin t d)≤900):=Lib.hid hl;have HB:=Lib.hid hbs;have AA:=Lib.hid (fun w1 (hb:Below w.heap.size w w1)=>hA.below hb);obtain ⟨bA,oA,cA,rfl,hcA,hltA,hwA,hatA⟩:=z1w hA;have TA:=Lib.hid (fun w1 (hb:Below w.heap.size w w1)=>(z0w hatA hcA).below hb);have hzA:sz (.fin s c)=sz c+1:=rfl;rw [hzA] at hcA AA ⊢;obtain ⟨nA,hnA⟩:∃ n,sz c=n:=⟨_,rfl⟩
  have hqA:=z0e c;rw [hnA] at hcA TA AA hqA ⊢;have g2A:¬ cA=1:=by omega
  clear hnA hzA;have g3A:(1:Int)≤(nA:Int)+1:=by omega
  rw [show kd (.fin s c)=14 from rfl,show sg (.fin s c)=s from rfl,show nmT (.fin s c)=⟨#[]⟩ from rfl] at hwA;have AB:=Lib.hid (fun w1 (hb:Below w.heap.size w w1)=>hB.below hb);obtain ⟨bB,oB,cB,rfl,hcB,hltB,hwB,hatB⟩:=z1w hB;have TB:=Lib.hid (fun w1 (hb:Below w.heap.size w w1)=>(z0w hatB hcB).below hb);have hzB:sz (.fin t d)=sz d+1:=rfl;rw [hzB] at hcB AB ⊢;obtain ⟨nB,hnB⟩:∃ n,sz d=n:=⟨_,rfl⟩
  have hqB:=z0e d;rw [hnB] at hcB TB AB hqB ⊢;have g2B:¬ cB=1:=by omega
  clear hnB hzB;have g3B:(1:Int)≤(nB:Int)+1:=by omega
  rw [show kd (.fin t d)=14 from rfl,show sg (.fin t d)=t from rfl,show nmT (.fin t d)=⟨#[]⟩ from rfl] at hwB;obtain ⟨X,hX⟩:∃ X,Sg.both s t=X:=⟨_,rfl⟩
  rw [hX];have HX:=Lib.hid hX;clear hX;unfold OutB;clear hl hbs hatA hA hatB hB
  go_enter Tryz.func210,Tryz.ntmps210
  go_wp2_with fail;have BW0:=z0b w (.cells #[.int .i64 7,.string ⟨#[]⟩,.int .i64 0] 68);have BC:=z0m w 7 0 ⟨#[]⟩ 68;generalize w.alloc (.cells #[.int .i64 7,.string ⟨#[]⟩,.int .i64 0] 68)=W at BW0 BC ⊢;have BW:=Lib.hid BW0
  have SW:Hid (∀ w',Below W.heap.size W w'→w'.cell? ⟨bA,oA,none⟩=some (.int .i64 14)∧w'.cell? ⟨bA,oA+1,none⟩=some (.string ⟨#[]⟩)∧w'.cell? ⟨bA,oA+2,none⟩=some (.int .i64 s)∧w'.cell? ⟨bB,oB,none⟩=some (.int .i64 14)∧w'.cell? ⟨bB,oB+1,none⟩=some (.string ⟨#[]⟩)∧w'.cell? ⟨bB,oB+2,none⟩=some (.int .i64 t)∧w'.cell? ⟨w.heap.size,0,none⟩=some (.int .i64 7)∧w'.cell? ⟨w.heap.size,1,none⟩=some (.string ⟨#[]⟩)∧w'.cell? ⟨w.heap.size,2,none⟩=some (.int .i64 0)):=Lib.hid fun w1 hb=>by
    obtain ⟨x0,x1,x2⟩:=hwA w1 (BW.out.trans (hb.mono BW.out.size));obtain ⟨x3,x4,x5⟩:=hwB w1 (BW.out.trans (hb.mono BW.out.size));obtain ⟨x6,x7,x8⟩:=BC w1 hb;exact ⟨x0,x1,x2,x3,x4,x5,x6,x7,x8⟩
  clear BW0 BC hwA hwB;have e:=SW.out _ (Below.refl _ _);obtain ⟨e0,e1,e2,e3,e4,e5,e6,e7,e8⟩:=e
  go_still_tail 8,(by kernel_rfl)
  change wpList _ _ _ _ _ W.drew;go_wp2_with fail;refine (Sg.z6m _ _ _).mono ?_;rw [HX.out];rintro e w1 ⟨rfl,rfl⟩;have D1:Hid (Below W.heap.size W W.drew):=Lib.hid (Below.refl _ _).drew;go_wp2_with fail;generalize W.drew=V at D1 ⊢
  have CS:Hid (∀ w1,Below V.heap.size V w1→Nds w1 (.slice (some ⟨bA,oA+3,none⟩) nA (cA-1)) (flat c)∧Nds w1 (.slice (some ⟨bB,oB+3,none⟩) nB (cB-1)) (flat d)):=Lib.hid fun w1 hb=>by
    have hb':=D1.out.trans (hb.mono D1.out.size);exact ⟨TA.out _ (BW.out.trans (hb'.mono BW.out.size)),TB.out _ (BW.out.trans (hb'.mono BW.out.size))⟩
  have HBV:=Lib.hid (Nat.le_trans HB.out (Nat.le_trans BW.out.size D1.out.size))
  have SV:Hid (∀ w1,Below V.heap.size V w1→w1.cell? ⟨w.heap.size,0,none⟩=some (.int .i64 7)∧w1.cell? ⟨w.heap.size,1,none⟩=some (.string ⟨#[]⟩)∧w1.cell? ⟨w.heap.size,2,none⟩=some (.int .i64 0)):=Lib.hid fun w1 hb=>by
    obtain ⟨_,_,_,_,_,_,x⟩:=SW.out w1 (D1.out.trans (hb.mono D1.out.size));exact x
  obtain ⟨x6,x7,x8⟩:=SV.out V (Below.refl _ _);clear e0 e1 e2 e3 e4 e5 e6 e7 e8 SW
  go_region_held3 (fun w'=>w'.cell? ⟨w.heap.size,0,none⟩=some (.int .i64 7)∧w'.cell? ⟨w.heap.size,1,none⟩=some (.string ⟨#[]⟩)∧w'.cell? ⟨w.heap.size,2,none⟩=some (.int .i64 0)) (first | exact SV.out _ (Below.refl _ _).drew | exact SV.out _ (z0b V _).drew | exact SV.out _ D2.out | exact SV.out _ (Below.alloc D2.out D2.out.size _) | exact SV.out _ D3.out | exact SV.out _ (Below.alloc D3.out D3.out.size _) | exact SV.out _ D4.out | fail) (first
    | (go_at_call 273
       (with_reducible refine (z1d X V.drew).mono ?_)
       rintro e w1 ⟨rfl,hb1⟩;have D2:=Lib.hid ((Below.refl V.heap.size V).drew.trans hb1);obtain ⟨y6,y7,y8⟩:=SV.out _ D2.out;clear hb1)
    | (go_at_call 273
       (with_reducible refine (z1d X (V.alloc _).drew).mono ?_)
       rintro e w1 ⟨rfl,hb1⟩;have D2:=Lib.hid ((z0b V _).drew.trans (hb1.mono (z0b V _).drew.size));have RW:=Lib.hid ((y8n (CS.out _ (Below.refl _ _)).1 (CS.out _ (Below.refl _ _)).2 _).below ((Below.refl _ _).drew.trans hb1));obtain ⟨y6,y7,y8⟩:=SV.out _ D2.out;clear hb1)
    | (go_at_call 207
       (with_reducible refine (mkPr base 7 0 (.par c d) c d rfl _ _ RW.out (by have:=HL.out; simp only [sz] at *; omega) (Nat.le_trans HBV.out D2.out.size)).mono ?_)
       rintro e w2 ⟨y2,rfl,hn2,hb2⟩;obtain ⟨_,ay2,cy2,rfl,-⟩:=id hn2;have D3:=Lib.hid (D2.out.trans (hb2.mono D2.out.size));have N2:=Lib.hid hn2;clear hn2 hb2)
    | (go_at_call 207
       (with_reducible refine (mkP2 base 7 0 (.par c d) c d rfl _ _ _ _ (CS.out _ D2.out).1 (CS.out _ D2.out).2 (by have:=HL.out; simp only [sz] at *; omega) (Nat.le_trans HBV.out D2.out.size)).mono ?_)
       rintro e w2 ⟨y2,rfl,hn2,hb2⟩;obtain ⟨_,ay2,cy2,rfl,-⟩:=id hn2;have D3:=Lib.hid (D2.out.trans (hb2.mono D2.out.size));have N2:=Lib.hid hn2;clear hn2 hb2)
    | (go_at_call 207
       (with_reducible refine (mkP1 base 14 X (.fin X (.par c d)) (.par c d) rfl _ _ _ N2.out.nds (by have:=HL.out; simp only [sz] at *; omega) (Nat.le_trans HBV.out D3.out.size)).mono ?_)
       rintro e w3 ⟨y3,rfl,hn3,hb3⟩;have D4:=Lib.hid (D3.out.trans (hb3.mono D3.out.size));have N3:=Lib.hid hn3;clear hn3 hb3)
    | fail)
  all_goals go_wp2_with fail
  all_goals go_ret
  all_goals exact ⟨_,rfl,N3.out,BW.out.trans ((D1.out.trans (D4.out.mono D1.out.size)).mono BW.out.size)⟩
theorem x0z (base:Nat) (a d:Tm) (va vd:Value) (w:World) (ha:Nds w va (flat a)) (hd:Nds w vd (flat d)) (hb:base≤w.heap.size) (hl:sz a+sz d≤900) :
    Calls Tryz.prog 210 #[.agg #[.int .i64 7,.string ⟨#[]⟩,.int .i64 0],va,vd] w (OutB base (sPar a d) w):=by
  by_cases a11:kd a=11
  · obtain ⟨s,rfl⟩:=kd11 a11
    by_cases d11:kd d=11
    · obtain ⟨t,rfl⟩:=kd11 d11;exact x0y base s t va vd w ha hd hb hl
    · rw [x8m d11];exact v3w base s d va vd w ha hd d11 hb hl
  · by_cases a14:kd a=14
    · obtain ⟨s,c,rfl⟩:=kd14 a14
      by_cases d14:kd d=14
      · obtain ⟨t,d',rfl⟩:=kd14 d14;exact x6u base s t c d' va vd w ha hd hb hl
      · rw [x8l d14];exact v3v base s c d va vd w ha hd d14 hb hl
    · rw [x8k a11 a14];exact y7q base a d va vd w ha hd a11 a14 hb hl
end Se
end Go.Proofs.YtpingbiibbmcaaaGreatDoor
namespace Go.Proofs.YtpingbiibbmcaaaGreatDoor.Pl
open Go Go.RowKit Rw YtpingbiibbmcaaaGreatDoor.So Ro
set_option maxRecDepth 20000
def Mn (va vo:Value) (i t:Nat):Prop:=(i=3∧va.ownBlock=some t)∨(i=9∧vo.ownBlock=some t)
def Bs (w3:World) (va vo:Value) (bn:Nat) (xk:Int) (w:World):Prop:=w.cell? ⟨bn,0,none⟩=some (.int .i64 xk)∧Turn (fun t=>va.ownBlock=some t∨vo.ownBlock=some t) w3 w
def Gr (w3:World) (v0 v:Value) (L:List Nat) (w:World):Prop:=Ow w v L∧∀ g,v.ownBlock=some g→v0.ownBlock=some g∨w3.heap.size≤g
def On1 (w3:World) (v:Value) (n:Int) (w:World):Prop:=∃ g,v=.slice (some ⟨g,0,none⟩) 1 1∧w3.heap.size≤g∧w.cell? ⟨g,0,none⟩=some (.int .i64 n)
def Rn (w3:World) (va vo:Value) (bn:Nat) (xk:Int) (k r:Nat) (ab st:List Nat) (i:Nat) (v:Value) (w:World):Prop:=match i with
  | 0=>v=va
  | 1=>v=.int .i64 (k:Int)
  | 2=>On1 w3 v k w
  | 3=>Gr w3 va v (ab++[k]) w
  | 4=>v=vo
  | 5=>v=.pointer (some ⟨bn,0,none⟩)
  | 6=>v=.int .i64 xk
  | 7=>v=.int .i64 (r:Int)
  | 8=>On1 w3 v r w
  | 9=>Gr w3 vo v (st++[r]) w
  | 10=>Gr w3 va v (ab++[k]) w
  | 11=>Gr w3 vo v (st++[r]) w
  | _=>True
def Nn (va vo:Value) (ab st:List Nat) (i:Nat) (w:World):Prop:=match i with
  | 3=>Ow w va ab
  | 9=>Ow w vo st
  | _=>True
def Pn (i:Nat) (v:Value) (k:Nat) (u:Value):Prop:=((i=3∨i=10)∧(k=9∨k=11)∨(i=9∨i=11)∧(k=3∨k=10))→∀ g,v.ownBlock=some g→u.ownBlock≠some g
def tabN:List (List Nat):=[[],[],[1],[0,1,2],[],[],[5],[3,5,6],[5,6,7],[3,4,5,6,7,8],[0,1,2,3,9],[3,4,5,6,7,8,9,10]]
structure Sep (w3:World) (va vo:Value) (bn:Nat):Prop where
  a:∀ g,va.ownBlock=some g→g<w3.heap.size
  o:∀ g,vo.ownBlock=some g→g<w3.heap.size
  ne:∀ g,va.ownBlock=some g→vo.ownBlock≠some g
  b:bn<w3.heap.size
  ba:va.ownBlock≠some bn
  bo:vo.ownBlock≠some bn
section
variable {w3:World} {va vo:Value} {bn:Nat} {xk:Int} {k r:Nat} {ab st:List Nat}
theorem Bs.turn (hs:Sep w3 va vo bn) (i:Nat) (w w':World) (h:Bs w3 va vo bn xk w) (ht:Turn (Mn va vo i) w w'):Bs w3 va vo bn xk w':=
  ⟨ht.cell h.1 (by rintro (⟨_,h⟩ | ⟨_,h⟩); exact hs.ba h; exact hs.bo h),h.2.trans (ht.imp (by rintro t (⟨_,h⟩ | ⟨_,h⟩); exact .inl h; exact .inr h))⟩
theorem On1.turn (hs:Sep w3 va vo bn) {i:Nat} {v:Value} {n:Int} {w w':World} (h:On1 w3 v n w) (ht:Turn (Mn va vo i) w w'):On1 w3 v n w':=by
  obtain ⟨g,rfl,hg,hc⟩:=h;exact ⟨g,rfl,hg,ht.cell hc (by rintro (⟨_,h⟩ | ⟨_,h⟩); have:=hs.a g h; omega; have:=hs.o g h; omega)⟩
theorem Gr.turn {M:Nat→Prop} {v0 v:Value} {L:List Nat} {w w':World} (h:Gr w3 v0 v L w) (ht:Turn M w w') (hn:∀ g,v.ownBlock=some g→¬ M g):Gr w3 v0 v L w':=⟨h.1.turn ht hn,h.2⟩
theorem Rn.turn (hs:Sep w3 va vo bn) (i j:Nat) (v:Value) (w w':World) (hij:i≠j) (hlt:i<12) (hp:Rq.tab tabN j i=false) (h:Rn w3 va vo bn xk k r ab st j v w) (ht:Turn (Mn va vo i) w w'):Rn w3 va vo bn xk k r ab st j v w':=by
  have ga:∀ g,(va.ownBlock=some g∨w3.heap.size≤g)→i≠3→¬ Mn va vo i g:=fun g hg hi hm=>by
    rcases hm with ⟨h3,_⟩ | ⟨_,h9⟩
    · exact hi h3
    · rcases hg with hg | hg
      · exact hs.ne g hg h9
      · have:=hs.o g h9; omega
  have go:∀ g,(vo.ownBlock=some g∨w3.heap.size≤g)→i≠9→¬ Mn va vo i g:=fun g hg hi hm=>by
    rcases hm with ⟨_,h3⟩ | ⟨h9,_⟩
    · rcases hg with hg | hg
      · exact hs.ne g h3 hg
      · have:=hs.a g h3; omega
    · exact hi h9
  unfold Rn at h ⊢
  split at h
  case h_3=>exact h.turn hs ht
  case h_4=>exact h.turn ht fun g hg=>ga g (h.2 g hg) hij
  case h_9=>exact h.turn hs ht
  case h_10=>exact h.turn ht fun g hg=>go g (h.2 g hg) hij
  case h_11=>exact h.turn ht fun g hg=>ga g (h.2 g hg) fun e=>by subst e; revert hp; decide
  case h_12=>exact h.turn ht fun g hg=>go g (h.2 g hg) fun e=>by subst e; revert hp; decide
  all_goals exact h
theorem Nn.turn (hs:Sep w3 va vo bn) (i j:Nat) (w w':World) (hij:i≠j) (hp:Rq.tab tabN i j=false) (h:Nn va vo ab st j w) (ht:Turn (Mn va vo i) w w'):Nn va vo ab st j w':=by
  unfold Nn at h ⊢
  split at h
  case h_1=>exact h.turn ht fun g hg hm=>by
                rcases hm with ⟨h3,_⟩ | ⟨_,h9⟩
                · exact hij h3
                · exact hs.ne g hg h9
  case h_2=>exact h.turn ht fun g hg hm=>by
                rcases hm with ⟨_,h3⟩ | ⟨h9,_⟩
                · exact hs.ne g h3 hg
                · exact hij h9
  all_goals exact h
theorem Pn.no {i j:Nat} {v u:Value} (h:i≠3∧i≠9∧i≠10∧i≠11):Pn i v j u∧Pn j u i v:=by
  constructor <;> intro hh <;> exfalso <;> omega
theorem Pn.new {v0 v0' v u:Value} {L:List Nat} {w:World} (h0:∀ g,v0.ownBlock=some g→g<w3.heap.size) (hne:∀ g,v0.ownBlock=some g→v0'.ownBlock≠some g) (hv:Ap.Fresh w v0 v) (hu:Gr w3 v0' u L w) :
    ∀ g,v.ownBlock=some g→u.ownBlock≠some g:=by
  intro g hg hu';have hlt:=hu.1.lt g hu'
  rcases hv with hv | ⟨g',hv,hle⟩
  · rw [hv] at hg
    rcases hu.2 g hu' with h | h
    · exact hne g hg h
    · have:=h0 g hg; omega
  · rw [hv] at hg
    cases hg
    omega
theorem Pn.three (hs:Sep w3 va vo bn) {v u:Value} {w:World} {j:Nat} (hv:Ap.Fresh w va v) (hu:Rn w3 va vo bn xk k r ab st j u w) (hj:j≠3):Pn 3 v j u∧Pn j u 3 v:=by
  by_cases h:j=9∨j=11
  · have hg:Gr w3 vo u (st++[r]) w:=by rcases h with rfl | rfl <;> exact hu
    have:=Pn.new hs.a hs.ne hv hg;exact ⟨fun _=>this,fun _ g h1 h2=>this g h2 h1⟩
  · constructor <;> intro hh <;> exfalso <;> omega
theorem Pn.nine (hs:Sep w3 va vo bn) {v u:Value} {w:World} {j:Nat} (hv:Ap.Fresh w vo v) (hu:Rn w3 va vo bn xk k r ab st j u w) (hj:j≠9):Pn 9 v j u∧Pn j u 9 v:=by
  by_cases h:j=3∨j=10
  · have hg:Gr w3 va u (ab++[k]) w:=by rcases h with rfl | rfl <;> exact hu
    have:=Pn.new hs.o (fun g h1 h2=>hs.ne g h2 h1) hv hg;exact ⟨fun _=>this,fun _ g h1 h2=>this g h2 h1⟩
  · constructor <;> intro hh <;> exfalso <;> omega
theorem Pn.ten {v u:Value} {j:Nat} (h:j≠3→Pn 3 v j u∧Pn j u 3 v):Pn 10 v j u∧Pn j u 10 v:=by
  constructor
  · intro hh g h1 h2;exact (h (by omega)).1 (by omega) g h1 h2
  · intro hh g h1 h2;exact (h (by omega)).2 (by omega) g h1 h2
theorem Pn.eleven {v u:Value} {j:Nat} (h:j≠9→Pn 9 v j u∧Pn j u 9 v):Pn 11 v j u∧Pn j u 11 v:=by
  constructor
  · intro hh g h1 h2;exact (h (by omega)).1 (by omega) g h1 h2
  · intro hh g h1 h2;exact (h (by omega)).2 (by omega) g h1 h2
theorem Gr.grow {v0 v':Value} {L:List Nat} {n:Nat} {w w':World} (h1:Ow w' v' (L++[n])) (hf:Ap.Fresh w v0 v') (hw:w3.heap.size≤w.heap.size):Gr w3 v0 v' (L++[n]) w':=
  ⟨h1,fun g hg=>by
    rcases hf with hf | ⟨g',hf,hle⟩
    · rw [hf] at hg; exact .inl hg
    · rw [hf] at hg; cases hg; exact .inr (by omega)⟩
theorem On1.rd {v:Value} {n:Int} {w:World} (h:On1 w3 v n w):Ap.Rd w 1 v 1 [.int .i64 n]:=by
  obtain ⟨g,rfl,_,hc⟩:=h;refine ⟨rfl,_,1,rfl,Nat.le_refl _,fun h=>(by cases h),fun _=>⟨g,0,rfl,fun j u hu=>?_⟩⟩
  match j with
  | 0=>simp at hu; subst hu; exact hc
  | j+1=>simp at hu
theorem On1.new (n:Int) {w:World} (hw:w3.heap.size≤w.heap.size):On1 w3 (.slice (some ⟨w.heap.size,0,none⟩) 1 1) n (w.alloc (.cells #[.int .i64 n] 3)):=⟨_,rfl,hw,by simp⟩
end
end Go.Proofs.YtpingbiibbmcaaaGreatDoor.Pl
