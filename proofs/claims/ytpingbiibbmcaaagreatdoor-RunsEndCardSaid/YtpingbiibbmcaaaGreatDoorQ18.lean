/- Laws that the last text leans on. -/
import Derived.Test.YtpingbiibbmcaaaGreatDoorQ17

set_option maxRecDepth 20000
set_option maxHeartbeats 1000000
namespace Go.Proofs.YtpingbiibbmcaaaGreatDoor
namespace Se
open Go Go.RowKit Rw YtpingbiibbmcaaaGreatDoor.So
theorem y8e (base:Nat) (s:Int) (c d:Tm) (vA:Value) (vB:Value) (w:World) (hA:Nds w vA (flat (.fin s c))) (hB:Nds w vB (flat d)) (hbs:base≤w.heap.size) (hl:sz (.fin s c)+sz d≤900) :
    Calls Tryz.prog 213 #[vA,vB] w (OutB base (.fin s (.seq c d)) w):=by
  have HL:Hid (sz (.fin s c)+sz d≤900):=Lib.hid hl;have HB:=Lib.hid hbs;have AA:=Lib.hid (fun w1 (hb:Below w.heap.size w w1)=>hA.below hb);obtain ⟨bA,oA,cA,rfl,hcA,hltA,hwA,hatA⟩:=z1w hA;have TA:=Lib.hid (fun w1 (hb:Below w.heap.size w w1)=>(z0w hatA hcA).below hb);have hzA:sz (.fin s c)=sz c+1:=rfl;rw [hzA] at hcA AA ⊢;obtain ⟨nA,hnA⟩:∃ n,sz c=n:=⟨_,rfl⟩
  have hqA:=z0e c;rw [hnA] at hcA TA AA hqA ⊢;have g2A:¬ cA=1:=by omega
  clear hnA hzA;have g3A:(1:Int)≤(nA:Int)+1:=by omega
  rw [show kd (.fin s c)=14 from rfl,show sg (.fin s c)=s from rfl,show nmT (.fin s c)=⟨#[]⟩ from rfl] at hwA;have AB:=Lib.hid (fun w1 (hb:Below w.heap.size w w1)=>hB.below hb);obtain ⟨_,adB,cdB,rfl,-⟩:=id hB;unfold OutB;clear hl hbs hatA hA hB;obtain ⟨W,hW⟩:∃ W,w=W:=⟨_,rfl⟩
  have BW:Hid (Below w.heap.size w W):=Lib.hid (hW ▸ Below.refl _ _)
  have SW:Hid (∀ w',Below W.heap.size W w'→w'.cell? ⟨bA,oA,none⟩=some (.int .i64 14)∧w'.cell? ⟨bA,oA+1,none⟩=some (.string ⟨#[]⟩)∧w'.cell? ⟨bA,oA+2,none⟩=some (.int .i64 s)):=Lib.hid fun w1 hb=>by
    obtain ⟨x0,x1,x2⟩:=hwA w1 (BW.out.trans (hb.mono BW.out.size));exact ⟨x0,x1,x2⟩
  obtain rfl:=hW;clear hwA;have e:=SW.out _ (Below.refl _ _);obtain ⟨e0,e1,e2⟩:=e
  go_enter Tryz.func213,Tryz.ntmps213
  go_wp2_with fail
  go_region_held3 (fun w'=>w'.cell? ⟨bA,oA,none⟩=some (.int .i64 14)∧w'.cell? ⟨bA,oA+1,none⟩=some (.string ⟨#[]⟩)∧w'.cell? ⟨bA,oA+2,none⟩=some (.int .i64 s)) (first | exact SW.out _ ((Below.refl w.heap.size w)).drew | exact SW.out _ (D1.out).drew | exact SW.out _ (D2.out).drew | exact SW.out _ (Below.refl w.heap.size w) | exact SW.out _ D1.out | exact SW.out _ D2.out | exact SW.out _ (Below.alloc (Below.refl w.heap.size w) ((Below.refl w.heap.size w)).size _) | exact SW.out _ (Below.alloc D1.out (D1.out).size _) | exact SW.out _ (Below.alloc D2.out (D2.out).size _) | exact SW.out _ (Below.alloc (Below.refl w.heap.size w) ((Below.refl w.heap.size w)).size _).drew | exact SW.out _ (Below.alloc D1.out (D1.out).size _).drew | exact SW.out _ (Below.alloc D2.out (D2.out).size _).drew | fail) (first
    | (go_at_call 207
       (with_reducible refine (mkP2d base 5 0 (.seq c d) c d rfl _ _ w _ (TA.out _ (BW.out.trans (((Below.refl w.heap.size w)).mono BW.out.size))) (AB.out _ (BW.out.trans (((Below.refl w.heap.size w)).mono BW.out.size))) (by have:=HL.out; simp only [sz] at *; omega) HB.out).mono ?_)
       rintro e w1 ⟨y1,rfl,hn1,hb1⟩;obtain ⟨_,ay1,cy1,rfl,-⟩:=id hn1;have D1:=Lib.hid (((Below.refl w.heap.size w)).trans (hb1.mono ((Below.refl w.heap.size w)).size));have N1:=Lib.hid hn1;clear hn1 hb1)
    | (go_at_call 207
       (with_reducible refine (mkP1 base 14 s (.fin s (.seq c d)) (.seq c d) rfl _ _ _ N1.out.nds (by have:=HL.out; simp only [sz] at *; omega) (Nat.le_trans HB.out (Nat.le_trans BW.out.size D1.out.size))).mono ?_)
       rintro e w2 ⟨y2,rfl,hn2,hb2⟩;obtain ⟨_,ay2,cy2,rfl,-⟩:=id hn2;have D2:=Lib.hid ((D1.out).trans (hb2.mono (D1.out).size));have N2:=Lib.hid hn2;clear hn2 hb2)
    | fail)
  go_wp2_with fail;go_ret;exact ⟨_,rfl,N2.out,BW.out.trans ((D2.out).mono BW.out.size)⟩
theorem y2o (base:Nat) (a d:Tm) (vA:Value) (vB:Value) (w:World) (hA:Nds w vA (flat a)) (hB:Nds w vB (flat d)) (qA14:kd a≠14) (hbs:base≤w.heap.size) (hl:sz a+sz d≤900) :
    Calls Tryz.prog 213 #[vA,vB] w (OutB base (.stack a d) w):=by
  have HL:Hid (sz a+sz d≤900):=Lib.hid hl;have HB:=Lib.hid hbs;have AA:=Lib.hid (fun w1 (hb:Below w.heap.size w w1)=>hA.below hb);obtain ⟨bA,oA,cA,rfl,hcA,hltA,hwA,hatA⟩:=z1w hA;obtain ⟨nA,hnA⟩:∃ n,sz a=n+1:=⟨sz a-1,by have:=z0e a; omega⟩
  rw [hnA] at hcA AA ⊢;clear hnA;have g3A:(1:Int)≤(nA:Int)+1:=by omega
  have fA14:(kd a==14)=false:=by rw [beq_eq_false_iff_ne]; exact qA14
  obtain ⟨kA,hkA⟩:∃ k,kd a=k:=⟨_,rfl⟩
  obtain ⟨sA,hsA⟩:∃ s,sg a=s:=⟨_,rfl⟩
  obtain ⟨mA,hmA⟩:∃ m,nmT a=m:=⟨_,rfl⟩
  rw [hkA] at hwA fA14 qA14;rw [hsA,hmA] at hwA;clear hkA hsA hmA;have AB:=Lib.hid (fun w1 (hb:Below w.heap.size w w1)=>hB.below hb);obtain ⟨_,adB,cdB,rfl,-⟩:=id hB;obtain ⟨adA,hadA⟩:∃ x,(some ⟨bA,oA,none⟩:Option Addr)=x:=⟨_,rfl⟩
  clear adA hadA;unfold OutB;clear hl hbs qA14 hatA hA hB;obtain ⟨W,hW⟩:∃ W,w=W:=⟨_,rfl⟩
  have BW:Hid (Below w.heap.size w W):=Lib.hid (hW ▸ Below.refl _ _)
  have SW:Hid (∀ w',Below W.heap.size W w'→w'.cell? ⟨bA,oA,none⟩=some (.int .i64 kA)∧w'.cell? ⟨bA,oA+1,none⟩=some (.string mA)∧w'.cell? ⟨bA,oA+2,none⟩=some (.int .i64 sA)):=Lib.hid fun w1 hb=>by
    obtain ⟨x0,x1,x2⟩:=hwA w1 (BW.out.trans (hb.mono BW.out.size));exact ⟨x0,x1,x2⟩
  obtain rfl:=hW;clear hwA;have e:=SW.out _ (Below.refl _ _);obtain ⟨e0,e1,e2⟩:=e
  go_enter Tryz.func213,Tryz.ntmps213
  go_wp2_with fail;refine (mkP2 base 13 0 (.stack a d) a d rfl _ _ _ _ (AA.out _ (BW.out.trans (((Below.refl w.heap.size w)).mono BW.out.size))) (AB.out _ (BW.out.trans (((Below.refl w.heap.size w)).mono BW.out.size))) (by have:=HL.out; simp only [sz] at *; omega) HB.out).mono ?_;rintro e w1 ⟨y1,rfl,hn1,hb1⟩;obtain ⟨_,ay1,cy1,rfl,-⟩:=id hn1;have D1:=Lib.hid (((Below.refl w.heap.size w)).trans (hb1.mono ((Below.refl w.heap.size w)).size));have N1:=Lib.hid hn1;clear hn1 hb1;go_wp2_with fail;go_ret;exact ⟨_,rfl,N1.out,BW.out.trans ((D1.out).mono BW.out.size)⟩
theorem z7n (base:Nat) (a d:Tm) (va vd:Value) (w:World) (ha:Nds w va (flat a)) (hd:Nds w vd (flat d)) (hb:base≤w.heap.size) (hl:sz a+sz d≤900) :
    Calls Tryz.prog 213 #[va,vd] w (OutB base (stk a d) w):=by
  by_cases h14:kd a=14
  · obtain ⟨s,c,rfl⟩:=kd14 h14;exact y8e base s c d va vd w ha hd hb hl
  · rw [y5j h14];exact y2o base a d va vd w ha hd h14 hb hl
theorem v1y (base:Nat) (c:Tm) (vA:Value) (w:World) (hA:Nds w vA (flat (.fin 1 c))) (hbs:base≤w.heap.size) (hl:sz (.fin 1 c)≤900) :
    Calls Tryz.prog 211 #[.agg #[.int .i64 9,.string ⟨#[]⟩,.int .i64 0],vA] w (OutB base (.over 1) w):=by
  have HL:Hid (sz (.fin 1 c)≤900):=Lib.hid hl;have HB:=Lib.hid hbs;have AA:=Lib.hid (fun w1 (hb:Below w.heap.size w w1)=>hA.below hb);obtain ⟨bA,oA,cA,rfl,hcA,hltA,hwA,hatA⟩:=z1w hA;have TA:=Lib.hid (fun w1 (hb:Below w.heap.size w w1)=>(z0w hatA hcA).below hb);have hzA:sz (.fin 1 c)=sz c+1:=rfl;rw [hzA] at hcA AA ⊢;obtain ⟨nA,hnA⟩:∃ n,sz c=n:=⟨_,rfl⟩
  have hqA:=z0e c;rw [hnA] at hcA TA AA hqA ⊢;have g2A:¬ cA=1:=by omega
  clear hnA hzA;have g3A:(1:Int)≤(nA:Int)+1:=by omega
  rw [show kd (.fin 1 c)=14 from rfl,show sg (.fin 1 c)=1 from rfl,show nmT (.fin 1 c)=⟨#[]⟩ from rfl] at hwA;have qe0:∀ w,(binOp .eql 68 (.agg #[.int .i64 14,.string ⟨#[]⟩,.int .i64 1]) (.agg #[.int .i64 14,.string ⟨#[]⟩,.int .i64 1])).run Tryz.prog w=.ok (.bool true) w:=fun w=>by rw [eq_bare]; exact congrArg (fun x=>Result.ok (Value.bool x) w) (decide_eq_true rfl)
  unfold OutB;clear hl hbs hatA hA
  go_enter Tryz.func211,Tryz.ntmps211
  go_wp2_with fail;have BW0:=z0b w (.cells #[.int .i64 9,.string ⟨#[]⟩,.int .i64 0] 68);have BC:=z0m w 9 0 ⟨#[]⟩ 68;generalize w.alloc (.cells #[.int .i64 9,.string ⟨#[]⟩,.int .i64 0] 68)=W at BW0 BC ⊢;have BW:=Lib.hid BW0
  have SW:Hid (∀ w',Below W.heap.size W w'→w'.cell? ⟨bA,oA,none⟩=some (.int .i64 14)∧w'.cell? ⟨bA,oA+1,none⟩=some (.string ⟨#[]⟩)∧w'.cell? ⟨bA,oA+2,none⟩=some (.int .i64 1)∧w'.cell? ⟨w.heap.size,0,none⟩=some (.int .i64 9)∧w'.cell? ⟨w.heap.size,1,none⟩=some (.string ⟨#[]⟩)∧w'.cell? ⟨w.heap.size,2,none⟩=some (.int .i64 0)):=Lib.hid fun w1 hb=>by
    obtain ⟨x0,x1,x2⟩:=hwA w1 (BW.out.trans (hb.mono BW.out.size));obtain ⟨x3,x4,x5⟩:=BC w1 hb;exact ⟨x0,x1,x2,x3,x4,x5⟩
  clear BW0 BC hwA
  go_region_held3 (fun w'=>w'.cell? ⟨bA,oA,none⟩=some (.int .i64 14)∧w'.cell? ⟨bA,oA+1,none⟩=some (.string ⟨#[]⟩)∧w'.cell? ⟨bA,oA+2,none⟩=some (.int .i64 1)∧w'.cell? ⟨w.heap.size,0,none⟩=some (.int .i64 9)∧w'.cell? ⟨w.heap.size,1,none⟩=some (.string ⟨#[]⟩)∧w'.cell? ⟨w.heap.size,2,none⟩=some (.int .i64 0)) (first | exact SW.out _ ((Below.refl W.heap.size W)).drew | exact SW.out _ (D1.out).drew | exact SW.out _ (Below.refl W.heap.size W) | exact SW.out _ D1.out | exact SW.out _ (Below.alloc (Below.refl W.heap.size W) ((Below.refl W.heap.size W)).size _) | exact SW.out _ (Below.alloc D1.out (D1.out).size _) | exact SW.out _ (Below.alloc (Below.refl W.heap.size W) ((Below.refl W.heap.size W)).size _).drew | exact SW.out _ (Below.alloc D1.out (D1.out).size _).drew | fail) (first
    | (go_at_call 273
       (with_reducible refine (z1d 1 _).mono ?_)
       rintro e w1 ⟨rfl,hb1⟩;have D1:=Lib.hid ((((Below.refl W.heap.size W)).drew).trans (hb1.mono (((Below.refl W.heap.size W)).drew).size));clear hb1)
    | fail)
  go_wp2_with fail;refine (z1e 1 _).mono ?_;rintro e w2 ⟨rfl,hb2⟩;have D2:=Lib.hid ((D1.out).trans (hb2.mono (D1.out).size));clear hb2;go_wp2_with fail;refine (mkP0 base 11 1 (.over 1) rfl _ (Nat.le_trans HB.out (Nat.le_trans BW.out.size D2.out.size))).mono ?_;rintro e w3 ⟨y3,rfl,hn3,hb3⟩;obtain ⟨_,ay3,cy3,rfl,-⟩:=id hn3;have D3:=Lib.hid ((D2.out).trans (hb3.mono (D2.out).size));have N3:=Lib.hid hn3;clear hn3 hb3;go_wp2_with fail;go_ret;exact ⟨_,rfl,N3.out,BW.out.trans ((D3.out).mono BW.out.size)⟩
theorem v1x (base:Nat) (c:Tm) (vA:Value) (w:World) (hA:Nds w vA (flat (.fin 2 c))) (PB:Hid (PS c)) (hbs:base≤w.heap.size) (hl:sz (.fin 2 c)≤900) :
    Calls Tryz.prog 211 #[.agg #[.int .i64 9,.string ⟨#[]⟩,.int .i64 0],vA] w (OutB base (S c) w):=by
  have HL:Hid (sz (.fin 2 c)≤900):=Lib.hid hl;have HB:=Lib.hid hbs;have AA:=Lib.hid (fun w1 (hb:Below w.heap.size w w1)=>hA.below hb);obtain ⟨bA,oA,cA,rfl,hcA,hltA,hwA,hatA⟩:=z1w hA;have TA:=Lib.hid (fun w1 (hb:Below w.heap.size w w1)=>(z0w hatA hcA).below hb);have hzA:sz (.fin 2 c)=sz c+1:=rfl;rw [hzA] at hcA AA ⊢;obtain ⟨nA,hnA⟩:∃ n,sz c=n:=⟨_,rfl⟩
  have hqA:=z0e c;rw [hnA] at hcA TA AA hqA ⊢;have g2A:¬ cA=1:=by omega
  clear hnA hzA;have g3A:(1:Int)≤(nA:Int)+1:=by omega
  rw [show kd (.fin 2 c)=14 from rfl,show sg (.fin 2 c)=2 from rfl,show nmT (.fin 2 c)=⟨#[]⟩ from rfl] at hwA;have qe0:∀ w,(binOp .eql 68 (.agg #[.int .i64 14,.string ⟨#[]⟩,.int .i64 2]) (.agg #[.int .i64 14,.string ⟨#[]⟩,.int .i64 1])).run Tryz.prog w=.ok (.bool false) w:=fun w=>by rw [eq_bare]; exact congrArg (fun x=>Result.ok (Value.bool x) w) (decide_eq_false (fun e=>absurd (congrArg Nd.s e) (by show ¬ ((2:Int)=1); decide)))
  have qe1:∀ w,(binOp .eql 68 (.agg #[.int .i64 14,.string ⟨#[]⟩,.int .i64 2]) (.agg #[.int .i64 14,.string ⟨#[]⟩,.int .i64 2])).run Tryz.prog w=.ok (.bool true) w:=fun w=>by rw [eq_bare]; exact congrArg (fun x=>Result.ok (Value.bool x) w) (decide_eq_true rfl)
  unfold OutB;clear hl hbs hatA hA
  go_enter Tryz.func211,Tryz.ntmps211
  go_wp2_with fail;have BW0:=z0b w (.cells #[.int .i64 9,.string ⟨#[]⟩,.int .i64 0] 68);have BC:=z0m w 9 0 ⟨#[]⟩ 68;generalize w.alloc (.cells #[.int .i64 9,.string ⟨#[]⟩,.int .i64 0] 68)=W at BW0 BC ⊢;have BW:=Lib.hid BW0
  have SW:Hid (∀ w',Below W.heap.size W w'→w'.cell? ⟨bA,oA,none⟩=some (.int .i64 14)∧w'.cell? ⟨bA,oA+1,none⟩=some (.string ⟨#[]⟩)∧w'.cell? ⟨bA,oA+2,none⟩=some (.int .i64 2)∧w'.cell? ⟨w.heap.size,0,none⟩=some (.int .i64 9)∧w'.cell? ⟨w.heap.size,1,none⟩=some (.string ⟨#[]⟩)∧w'.cell? ⟨w.heap.size,2,none⟩=some (.int .i64 0)):=Lib.hid fun w1 hb=>by
    obtain ⟨x0,x1,x2⟩:=hwA w1 (BW.out.trans (hb.mono BW.out.size));obtain ⟨x3,x4,x5⟩:=BC w1 hb;exact ⟨x0,x1,x2,x3,x4,x5⟩
  clear BW0 BC hwA
  go_region_held3 (fun w'=>w'.cell? ⟨bA,oA,none⟩=some (.int .i64 14)∧w'.cell? ⟨bA,oA+1,none⟩=some (.string ⟨#[]⟩)∧w'.cell? ⟨bA,oA+2,none⟩=some (.int .i64 2)∧w'.cell? ⟨w.heap.size,0,none⟩=some (.int .i64 9)∧w'.cell? ⟨w.heap.size,1,none⟩=some (.string ⟨#[]⟩)∧w'.cell? ⟨w.heap.size,2,none⟩=some (.int .i64 0)) (first | exact SW.out _ ((Below.refl W.heap.size W)).drew | exact SW.out _ (D1.out).drew | exact SW.out _ (Below.refl W.heap.size W) | exact SW.out _ D1.out | exact SW.out _ (Below.alloc (Below.refl W.heap.size W) ((Below.refl W.heap.size W)).size _) | exact SW.out _ (Below.alloc D1.out (D1.out).size _) | exact SW.out _ (Below.alloc (Below.refl W.heap.size W) ((Below.refl W.heap.size W)).size _).drew | exact SW.out _ (Below.alloc D1.out (D1.out).size _).drew | fail) (first
    | (go_at_call 273
       (with_reducible refine (z1d 1 _).mono ?_)
       rintro e w1 ⟨rfl,hb1⟩;have D1:=Lib.hid ((((Below.refl W.heap.size W)).drew).trans (hb1.mono (((Below.refl W.heap.size W)).drew).size));clear hb1)
    | fail)
  go_wp2_with fail
  go_region_held3 (fun w'=>w'.cell? ⟨bA,oA,none⟩=some (.int .i64 14)∧w'.cell? ⟨bA,oA+1,none⟩=some (.string ⟨#[]⟩)∧w'.cell? ⟨bA,oA+2,none⟩=some (.int .i64 2)∧w'.cell? ⟨w.heap.size,0,none⟩=some (.int .i64 9)∧w'.cell? ⟨w.heap.size,1,none⟩=some (.string ⟨#[]⟩)∧w'.cell? ⟨w.heap.size,2,none⟩=some (.int .i64 0)) (first | exact SW.out _ (D1.out).drew | exact SW.out _ (D2.out).drew | exact SW.out _ D1.out | exact SW.out _ D2.out | exact SW.out _ (Below.alloc D1.out (D1.out).size _) | exact SW.out _ (Below.alloc D2.out (D2.out).size _) | exact SW.out _ (Below.alloc D1.out (D1.out).size _).drew | exact SW.out _ (Below.alloc D2.out (D2.out).size _).drew | fail) (first
    | (go_at_call 273
       (with_reducible refine (z1d 2 _).mono ?_)
       rintro e w2 ⟨rfl,hb2⟩;have D2:=Lib.hid (((D1.out).drew).trans (hb2.mono ((D1.out).drew).size));clear hb2)
    | fail)
  go_wp2_with fail;refine (PB.out _ _ (TA.out _ (BW.out.trans ((D2.out).mono BW.out.size)))).mono ?_;rintro e w3 ⟨y3,rfl,hn3,hb3⟩;obtain ⟨_,ay3,cy3,rfl,-⟩:=id hn3;have D3:=Lib.hid ((D2.out).trans (hb3.mono (D2.out).size));have N3:=Lib.hid hn3;clear hn3 hb3;go_wp2_with fail;go_ret;exact ⟨_,rfl,N3.out.more (Nat.le_trans HB.out (Nat.le_trans BW.out.size D2.out.size)),BW.out.trans ((D3.out).mono BW.out.size)⟩
theorem v1w (base:Nat) (s:Int) (c:Tm) (vA:Value) (w:World) (hA:Nds w vA (flat (.fin s c))) (h1:s≠1) (h2:s≠2) (hbs:base≤w.heap.size) (hl:sz (.fin s c)≤900) :
    Calls Tryz.prog 211 #[.agg #[.int .i64 9,.string ⟨#[]⟩,.int .i64 0],vA] w (OutB base (.block (.fin s c)) w):=by
  have HL:Hid (sz (.fin s c)≤900):=Lib.hid hl;have HB:=Lib.hid hbs;have AA:=Lib.hid (fun w1 (hb:Below w.heap.size w w1)=>hA.below hb);obtain ⟨bA,oA,cA,rfl,hcA,hltA,hwA,hatA⟩:=z1w hA;have TA:=Lib.hid (fun w1 (hb:Below w.heap.size w w1)=>(z0w hatA hcA).below hb);have hzA:sz (.fin s c)=sz c+1:=rfl;rw [hzA] at hcA AA ⊢;obtain ⟨nA,hnA⟩:∃ n,sz c=n:=⟨_,rfl⟩
  have hqA:=z0e c;rw [hnA] at hcA TA AA hqA ⊢;have g2A:¬ cA=1:=by omega
  clear hnA hzA;have g3A:(1:Int)≤(nA:Int)+1:=by omega
  rw [show kd (.fin s c)=14 from rfl,show sg (.fin s c)=s from rfl,show nmT (.fin s c)=⟨#[]⟩ from rfl] at hwA;have qe0:∀ w,(binOp .eql 68 (.agg #[.int .i64 14,.string ⟨#[]⟩,.int .i64 s]) (.agg #[.int .i64 14,.string ⟨#[]⟩,.int .i64 1])).run Tryz.prog w=.ok (.bool false) w:=fun w=>by rw [eq_bare]; exact congrArg (fun x=>Result.ok (Value.bool x) w) (decide_eq_false (fun e=>absurd (congrArg Nd.s e) h1))
  have qe1:∀ w,(binOp .eql 68 (.agg #[.int .i64 14,.string ⟨#[]⟩,.int .i64 s]) (.agg #[.int .i64 14,.string ⟨#[]⟩,.int .i64 2])).run Tryz.prog w=.ok (.bool false) w:=fun w=>by rw [eq_bare]; exact congrArg (fun x=>Result.ok (Value.bool x) w) (decide_eq_false (fun e=>absurd (congrArg Nd.s e) h2))
  unfold OutB;clear hl hbs hatA hA
  go_enter Tryz.func211,Tryz.ntmps211
  go_wp2_with fail;have BW0:=z0b w (.cells #[.int .i64 9,.string ⟨#[]⟩,.int .i64 0] 68);have BC:=z0m w 9 0 ⟨#[]⟩ 68;generalize w.alloc (.cells #[.int .i64 9,.string ⟨#[]⟩,.int .i64 0] 68)=W at BW0 BC ⊢;have BW:=Lib.hid BW0
  have SW:Hid (∀ w',Below W.heap.size W w'→w'.cell? ⟨bA,oA,none⟩=some (.int .i64 14)∧w'.cell? ⟨bA,oA+1,none⟩=some (.string ⟨#[]⟩)∧w'.cell? ⟨bA,oA+2,none⟩=some (.int .i64 s)∧w'.cell? ⟨w.heap.size,0,none⟩=some (.int .i64 9)∧w'.cell? ⟨w.heap.size,1,none⟩=some (.string ⟨#[]⟩)∧w'.cell? ⟨w.heap.size,2,none⟩=some (.int .i64 0)):=Lib.hid fun w1 hb=>by
    obtain ⟨x0,x1,x2⟩:=hwA w1 (BW.out.trans (hb.mono BW.out.size));obtain ⟨x3,x4,x5⟩:=BC w1 hb;exact ⟨x0,x1,x2,x3,x4,x5⟩
  clear BW0 BC hwA
  go_region_held3 (fun w'=>w'.cell? ⟨bA,oA,none⟩=some (.int .i64 14)∧w'.cell? ⟨bA,oA+1,none⟩=some (.string ⟨#[]⟩)∧w'.cell? ⟨bA,oA+2,none⟩=some (.int .i64 s)∧w'.cell? ⟨w.heap.size,0,none⟩=some (.int .i64 9)∧w'.cell? ⟨w.heap.size,1,none⟩=some (.string ⟨#[]⟩)∧w'.cell? ⟨w.heap.size,2,none⟩=some (.int .i64 0)) (first | exact SW.out _ ((Below.refl W.heap.size W)).drew | exact SW.out _ (D1.out).drew | exact SW.out _ (Below.refl W.heap.size W) | exact SW.out _ D1.out | exact SW.out _ (Below.alloc (Below.refl W.heap.size W) ((Below.refl W.heap.size W)).size _) | exact SW.out _ (Below.alloc D1.out (D1.out).size _) | exact SW.out _ (Below.alloc (Below.refl W.heap.size W) ((Below.refl W.heap.size W)).size _).drew | exact SW.out _ (Below.alloc D1.out (D1.out).size _).drew | fail) (first
    | (go_at_call 273
       (with_reducible refine (z1d 1 _).mono ?_)
       rintro e w1 ⟨rfl,hb1⟩;have D1:=Lib.hid ((((Below.refl W.heap.size W)).drew).trans (hb1.mono (((Below.refl W.heap.size W)).drew).size));clear hb1)
    | fail)
  go_wp2_with fail
  go_region_held3 (fun w'=>w'.cell? ⟨bA,oA,none⟩=some (.int .i64 14)∧w'.cell? ⟨bA,oA+1,none⟩=some (.string ⟨#[]⟩)∧w'.cell? ⟨bA,oA+2,none⟩=some (.int .i64 s)∧w'.cell? ⟨w.heap.size,0,none⟩=some (.int .i64 9)∧w'.cell? ⟨w.heap.size,1,none⟩=some (.string ⟨#[]⟩)∧w'.cell? ⟨w.heap.size,2,none⟩=some (.int .i64 0)) (first | exact SW.out _ (D1.out).drew | exact SW.out _ (D2.out).drew | exact SW.out _ D1.out | exact SW.out _ D2.out | exact SW.out _ (Below.alloc D1.out (D1.out).size _) | exact SW.out _ (Below.alloc D2.out (D2.out).size _) | exact SW.out _ (Below.alloc D1.out (D1.out).size _).drew | exact SW.out _ (Below.alloc D2.out (D2.out).size _).drew | fail) (first
    | (go_at_call 273
       (with_reducible refine (z1d 2 _).mono ?_)
       rintro e w2 ⟨rfl,hb2⟩;have D2:=Lib.hid (((D1.out).drew).trans (hb2.mono ((D1.out).drew).size));clear hb2)
    | fail)
  go_wp2_with fail;refine (mkP1 base 9 0 (.block (.fin s c)) (.fin s c) rfl _ _ _ (AA.out _ (BW.out.trans ((D2.out).mono BW.out.size))) (by have:=HL.out; simp only [sz] at *; omega) (Nat.le_trans HB.out (Nat.le_trans BW.out.size D2.out.size))).mono ?_;rintro e w3 ⟨y3,rfl,hn3,hb3⟩;obtain ⟨_,ay3,cy3,rfl,-⟩:=id hn3;have D3:=Lib.hid ((D2.out).trans (hb3.mono (D2.out).size));have N3:=Lib.hid hn3;clear hn3 hb3;go_wp2_with fail;go_ret;exact ⟨_,rfl,N3.out,BW.out.trans ((D3.out).mono BW.out.size)⟩
theorem y3y (base:Nat) (a:Tm) (vA:Value) (w:World) (hA:Nds w vA (flat a)) (qA14:kd a≠14) (hbs:base≤w.heap.size) (hl:sz a≤900) :
    Calls Tryz.prog 211 #[.agg #[.int .i64 9,.string ⟨#[]⟩,.int .i64 0],vA] w (OutB base (.block a) w):=by
  have HL:Hid (sz a≤900):=Lib.hid hl;have HB:=Lib.hid hbs;have AA:=Lib.hid (fun w1 (hb:Below w.heap.size w w1)=>hA.below hb);obtain ⟨bA,oA,cA,rfl,hcA,hltA,hwA,hatA⟩:=z1w hA;obtain ⟨nA,hnA⟩:∃ n,sz a=n+1:=⟨sz a-1,by have:=z0e a; omega⟩
  rw [hnA] at hcA AA ⊢;clear hnA;have g3A:(1:Int)≤(nA:Int)+1:=by omega
  have fA14:(kd a==14)=false:=by rw [beq_eq_false_iff_ne]; exact qA14
  obtain ⟨kA,hkA⟩:∃ k,kd a=k:=⟨_,rfl⟩
  obtain ⟨sA,hsA⟩:∃ s,sg a=s:=⟨_,rfl⟩
  obtain ⟨mA,hmA⟩:∃ m,nmT a=m:=⟨_,rfl⟩
  rw [hkA] at hwA fA14 qA14;rw [hsA,hmA] at hwA;clear hkA hsA hmA;have qe0:∀ w,(binOp .eql 68 (.agg #[.int .i64 kA,.string mA,.int .i64 sA]) (.agg #[.int .i64 14,.string ⟨#[]⟩,.int .i64 1])).run Tryz.prog w=.ok (.bool false) w:=fun w=>by rw [eq_bare]; exact congrArg (fun x=>Result.ok (Value.bool x) w) (decide_eq_false (fun e=>absurd (congrArg Nd.k e) qA14))
  have qe1:∀ w,(binOp .eql 68 (.agg #[.int .i64 kA,.string mA,.int .i64 sA]) (.agg #[.int .i64 14,.string ⟨#[]⟩,.int .i64 2])).run Tryz.prog w=.ok (.bool false) w:=fun w=>by rw [eq_bare]; exact congrArg (fun x=>Result.ok (Value.bool x) w) (decide_eq_false (fun e=>absurd (congrArg Nd.k e) qA14))
  unfold OutB;clear hl hbs qA14 hatA hA
  go_enter Tryz.func211,Tryz.ntmps211
  go_wp2_with fail;have BW0:=z0b w (.cells #[.int .i64 9,.string ⟨#[]⟩,.int .i64 0] 68);have BC:=z0m w 9 0 ⟨#[]⟩ 68;generalize w.alloc (.cells #[.int .i64 9,.string ⟨#[]⟩,.int .i64 0] 68)=W at BW0 BC ⊢;have BW:=Lib.hid BW0
  have SW:Hid (∀ w',Below W.heap.size W w'→w'.cell? ⟨bA,oA,none⟩=some (.int .i64 kA)∧w'.cell? ⟨bA,oA+1,none⟩=some (.string mA)∧w'.cell? ⟨bA,oA+2,none⟩=some (.int .i64 sA)∧w'.cell? ⟨w.heap.size,0,none⟩=some (.int .i64 9)∧w'.cell? ⟨w.heap.size,1,none⟩=some (.string ⟨#[]⟩)∧w'.cell? ⟨w.heap.size,2,none⟩=some (.int .i64 0)):=Lib.hid fun w1 hb=>by
    obtain ⟨x0,x1,x2⟩:=hwA w1 (BW.out.trans (hb.mono BW.out.size));obtain ⟨x3,x4,x5⟩:=BC w1 hb;exact ⟨x0,x1,x2,x3,x4,x5⟩
  clear BW0 BC hwA
  go_region_held3 (fun w'=>w'.cell? ⟨bA,oA,none⟩=some (.int .i64 kA)∧w'.cell? ⟨bA,oA+1,none⟩=some (.string mA)∧w'.cell? ⟨bA,oA+2,none⟩=some (.int .i64 sA)∧w'.cell? ⟨w.heap.size,0,none⟩=some (.int .i64 9)∧w'.cell? ⟨w.heap.size,1,none⟩=some (.string ⟨#[]⟩)∧w'.cell? ⟨w.heap.size,2,none⟩=some (.int .i64 0)) (first | exact SW.out _ ((Below.refl W.heap.size W)).drew | exact SW.out _ (D1.out).drew | exact SW.out _ (Below.refl W.heap.size W) | exact SW.out _ D1.out | exact SW.out _ (Below.alloc (Below.refl W.heap.size W) ((Below.refl W.heap.size W)).size _) | exact SW.out _ (Below.alloc D1.out (D1.out).size _) | exact SW.out _ (Below.alloc (Below.refl W.heap.size W) ((Below.refl W.heap.size W)).size _).drew | exact SW.out _ (Below.alloc D1.out (D1.out).size _).drew | fail) (first
    | (go_at_call 273
       (with_reducible refine (z1d 1 _).mono ?_)
       rintro e w1 ⟨rfl,hb1⟩;have D1:=Lib.hid ((((Below.refl W.heap.size W)).drew).trans (hb1.mono (((Below.refl W.heap.size W)).drew).size));clear hb1)
    | fail)
  go_wp2_with fail
  go_region_held3 (fun w'=>w'.cell? ⟨bA,oA,none⟩=some (.int .i64 kA)∧w'.cell? ⟨bA,oA+1,none⟩=some (.string mA)∧w'.cell? ⟨bA,oA+2,none⟩=some (.int .i64 sA)∧w'.cell? ⟨w.heap.size,0,none⟩=some (.int .i64 9)∧w'.cell? ⟨w.heap.size,1,none⟩=some (.string ⟨#[]⟩)∧w'.cell? ⟨w.heap.size,2,none⟩=some (.int .i64 0)) (first | exact SW.out _ (D1.out).drew | exact SW.out _ (D2.out).drew | exact SW.out _ D1.out | exact SW.out _ D2.out | exact SW.out _ (Below.alloc D1.out (D1.out).size _) | exact SW.out _ (Below.alloc D2.out (D2.out).size _) | exact SW.out _ (Below.alloc D1.out (D1.out).size _).drew | exact SW.out _ (Below.alloc D2.out (D2.out).size _).drew | fail) (first
    | (go_at_call 273
       (with_reducible refine (z1d 2 _).mono ?_)
       rintro e w2 ⟨rfl,hb2⟩;have D2:=Lib.hid (((D1.out).drew).trans (hb2.mono ((D1.out).drew).size));clear hb2)
    | fail)
  go_wp2_with fail;refine (mkP1 base 9 0 (.block a) a rfl _ _ _ (AA.out _ (BW.out.trans ((D2.out).mono BW.out.size))) (by have:=HL.out; simp only [sz] at *; omega) (Nat.le_trans HB.out (Nat.le_trans BW.out.size D2.out.size))).mono ?_;rintro e w3 ⟨y3,rfl,hn3,hb3⟩;obtain ⟨_,ay3,cy3,rfl,-⟩:=id hn3;have D3:=Lib.hid ((D2.out).trans (hb3.mono (D2.out).size));have N3:=Lib.hid hn3;clear hn3 hb3;go_wp2_with fail;go_ret;exact ⟨_,rfl,N3.out,BW.out.trans ((D3.out).mono BW.out.size)⟩
theorem y6o (base:Nat) (a:Tm) (va:Value) (w:World) (ha:Nds w va (flat a)) (PB:∀ s c,a=.fin s c→PS c) (hb:base≤w.heap.size) (hl:sz a≤900) :
    Calls Tryz.prog 211 #[.agg #[.int .i64 9,.string ⟨#[]⟩,.int .i64 0],va] w (OutB base (sBlock S a) w):=by
  by_cases a14:kd a=14
  · obtain ⟨s,c,rfl⟩:=kd14 a14
    by_cases h1:s=1
    · subst h1;exact v1y base c va w ha hb hl
    · by_cases h2:s=2
      · subst h2;exact v1x base c va w ha (Lib.hid (PB 2 c rfl)) hb hl
      · have e:sBlock S (.fin s c)=.block (.fin s c):=by simp [sBlock,h1,h2]
        rw [e];exact v1w base s c va w ha h1 h2 hb hl
  · have e:sBlock S a=.block a:=by cases a <;> first | rfl | exact absurd rfl a14
    rw [e];exact y3y base a va w ha a14 hb hl
theorem going_1 (base:Nat) (d:Tm) (vA:Value) (vB:Value) (w:World) (hA:Nds w vA (flat (.over 1))) (hB:Nds w vB (flat d)) (hbs:base≤w.heap.size) (hl:sz (.over 1)+sz d≤900) :
    Calls Tryz.prog 212 #[.agg #[.int .i64 12,.string ⟨#[]⟩,.int .i64 0],vA,vB] w (OutB base (.fin 1 d) w):=by
  have HL:Hid (sz (.over 1)+sz d≤900):=Lib.hid hl;have HB:=Lib.hid hbs;have AA:=Lib.hid (fun w1 (hb:Below w.heap.size w w1)=>hA.below hb);obtain ⟨bA,oA,cA,rfl,hcA,hltA,hwA,hatA⟩:=z1w hA;obtain ⟨nA,hnA⟩:∃ n,sz (.over 1)=n+1:=⟨sz (.over 1)-1,by have:=z0e (.over 1); omega⟩
  rw [hnA] at hcA AA ⊢;clear hnA;have g3A:(1:Int)≤(nA:Int)+1:=by omega
  rw [show kd (.over 1)=11 from rfl,show sg (.over 1)=1 from rfl,show nmT (.over 1)=⟨#[]⟩ from rfl] at hwA;have AB:=Lib.hid (fun w1 (hb:Below w.heap.size w w1)=>hB.below hb);obtain ⟨_,adB,cdB,rfl,-⟩:=id hB;have qe0:∀ w,(binOp .eql 68 (.agg #[.int .i64 11,.string ⟨#[]⟩,.int .i64 1]) (.agg #[.int .i64 11,.string ⟨#[]⟩,.int .i64 1])).run Tryz.prog w=.ok (.bool true) w:=fun w=>by rw [eq_bare]; exact congrArg (fun x=>Result.ok (Value.bool x) w) (decide_eq_true rfl)
  unfold OutB;clear hl hbs hatA hA hB
  go_enter Tryz.func212,Tryz.ntmps212
  go_wp2_with fail;have BW0:=z0b w (.cells #[.int .i64 12,.string ⟨#[]⟩,.int .i64 0] 68);have BC:=z0m w 12 0 ⟨#[]⟩ 68;generalize w.alloc (.cells #[.int .i64 12,.string ⟨#[]⟩,.int .i64 0] 68)=W at BW0 BC ⊢;have BW:=Lib.hid BW0
  have SW:Hid (∀ w',Below W.heap.size W w'→w'.cell? ⟨bA,oA,none⟩=some (.int .i64 11)∧w'.cell? ⟨bA,oA+1,none⟩=some (.string ⟨#[]⟩)∧w'.cell? ⟨bA,oA+2,none⟩=some (.int .i64 1)∧w'.cell? ⟨w.heap.size,0,none⟩=some (.int .i64 12)∧w'.cell? ⟨w.heap.size,1,none⟩=some (.string ⟨#[]⟩)∧w'.cell? ⟨w.heap.size,2,none⟩=some (.int .i64 0)):=Lib.hid fun w1 hb=>by
    obtain ⟨x0,x1,x2⟩:=hwA w1 (BW.out.trans (hb.mono BW.out.size));obtain ⟨x3,x4,x5⟩:=BC w1 hb;exact ⟨x0,x1,x2,x3,x4,x5⟩
  clear BW0 BC hwA
  go_region_held3 (fun w'=>w'.cell? ⟨bA,oA,none⟩=some (.int .i64 11)∧w'.cell? ⟨bA,oA+1,none⟩=some (.string ⟨#[]⟩)∧w'.cell? ⟨bA,oA+2,none⟩=some (.int .i64 1)∧w'.cell? ⟨w.heap.size,0,none⟩=some (.int .i64 12)∧w'.cell? ⟨w.heap.size,1,none⟩=some (.string ⟨#[]⟩)∧w'.cell? ⟨w.heap.size,2,none⟩=some (.int .i64 0)) (first | exact SW.out _ ((Below.refl W.heap.size W)).drew | exact SW.out _ (D1.out).drew | exact SW.out _ (Below.refl W.heap.size W) | exact SW.out _ D1.out | exact SW.out _ (Below.alloc (Below.refl W.heap.size W) ((Below.refl W.heap.size W)).size _) | exact SW.out _ (Below.alloc D1.out (D1.out).size _) | exact SW.out _ (Below.alloc (Below.refl W.heap.size W) ((Below.refl W.heap.size W)).size _).drew | exact SW.out _ (Below.alloc D1.out (D1.out).size _).drew | fail) (first
    | (go_at_call 208
       (with_reducible refine (z1e 1 _).mono ?_)
       rintro e w1 ⟨rfl,hb1⟩;have D1:=Lib.hid ((((Below.refl W.heap.size W)).drew).trans (hb1.mono (((Below.refl W.heap.size W)).drew).size));clear hb1)
    | fail)
  go_wp2_with fail;refine (z1d 1 _).mono ?_;rintro e w2 ⟨rfl,hb2⟩;have D2:=Lib.hid ((D1.out).trans (hb2.mono (D1.out).size));clear hb2;go_wp2_with fail;refine (mkP1 base 14 1 (.fin 1 d) d rfl _ _ _ (AB.out _ (BW.out.trans ((D2.out).mono BW.out.size))) (by have:=HL.out; simp only [sz] at *; omega) (Nat.le_trans HB.out (Nat.le_trans BW.out.size D2.out.size))).mono ?_;rintro e w3 ⟨y3,rfl,hn3,hb3⟩;obtain ⟨_,ay3,cy3,rfl,-⟩:=id hn3;have D3:=Lib.hid ((D2.out).trans (hb3.mono (D2.out).size));have N3:=Lib.hid hn3;clear hn3 hb3;go_wp2_with fail;go_ret;exact ⟨_,rfl,N3.out,BW.out.trans ((D3.out).mono BW.out.size)⟩
theorem x6e (base:Nat) (s:Int) (d:Tm) (vA:Value) (vB:Value) (w:World) (hA:Nds w vA (flat (.over s))) (hB:Nds w vB (flat d)) (hs:s≠1) (hbs:base≤w.heap.size) (hl:sz (.over s)+sz d≤900) :
    Calls Tryz.prog 212 #[.agg #[.int .i64 12,.string ⟨#[]⟩,.int .i64 0],vA,vB] w (OutB base (.fin s .skip) w):=by
  have HL:Hid (sz (.over s)+sz d≤900):=Lib.hid hl;have HB:=Lib.hid hbs;have AA:=Lib.hid (fun w1 (hb:Below w.heap.size w w1)=>hA.below hb);obtain ⟨bA,oA,cA,rfl,hcA,hltA,hwA,hatA⟩:=z1w hA;obtain ⟨nA,hnA⟩:∃ n,sz (.over s)=n+1:=⟨sz (.over s)-1,by have:=z0e (.over s); omega⟩
  rw [hnA] at hcA AA ⊢;clear hnA;have g3A:(1:Int)≤(nA:Int)+1:=by omega
  rw [show kd (.over s)=11 from rfl,show sg (.over s)=s from rfl,show nmT (.over s)=⟨#[]⟩ from rfl] at hwA;have AB:=Lib.hid (fun w1 (hb:Below w.heap.size w w1)=>hB.below hb);obtain ⟨_,adB,cdB,rfl,-⟩:=id hB;have qe0:∀ w,(binOp .eql 68 (.agg #[.int .i64 11,.string ⟨#[]⟩,.int .i64 s]) (.agg #[.int .i64 11,.string ⟨#[]⟩,.int .i64 1])).run Tryz.prog w=.ok (.bool false) w:=fun w=>by rw [eq_bare]; exact congrArg (fun x=>Result.ok (Value.bool x) w) (decide_eq_false (fun e=>absurd (congrArg Nd.s e) hs))
  unfold OutB;clear hl hbs hatA hA hB
  go_enter Tryz.func212,Tryz.ntmps212
  go_wp2_with fail;have BW0:=z0b w (.cells #[.int .i64 12,.string ⟨#[]⟩,.int .i64 0] 68);have BC:=z0m w 12 0 ⟨#[]⟩ 68;generalize w.alloc (.cells #[.int .i64 12,.string ⟨#[]⟩,.int .i64 0] 68)=W at BW0 BC ⊢;have BW:=Lib.hid BW0
  have SW:Hid (∀ w',Below W.heap.size W w'→w'.cell? ⟨bA,oA,none⟩=some (.int .i64 11)∧w'.cell? ⟨bA,oA+1,none⟩=some (.string ⟨#[]⟩)∧w'.cell? ⟨bA,oA+2,none⟩=some (.int .i64 s)∧w'.cell? ⟨w.heap.size,0,none⟩=some (.int .i64 12)∧w'.cell? ⟨w.heap.size,1,none⟩=some (.string ⟨#[]⟩)∧w'.cell? ⟨w.heap.size,2,none⟩=some (.int .i64 0)):=Lib.hid fun w1 hb=>by
    obtain ⟨x0,x1,x2⟩:=hwA w1 (BW.out.trans (hb.mono BW.out.size));obtain ⟨x3,x4,x5⟩:=BC w1 hb;exact ⟨x0,x1,x2,x3,x4,x5⟩
  clear BW0 BC hwA
  go_region_held3 (fun w'=>w'.cell? ⟨bA,oA,none⟩=some (.int .i64 11)∧w'.cell? ⟨bA,oA+1,none⟩=some (.string ⟨#[]⟩)∧w'.cell? ⟨bA,oA+2,none⟩=some (.int .i64 s)∧w'.cell? ⟨w.heap.size,0,none⟩=some (.int .i64 12)∧w'.cell? ⟨w.heap.size,1,none⟩=some (.string ⟨#[]⟩)∧w'.cell? ⟨w.heap.size,2,none⟩=some (.int .i64 0)) (first | exact SW.out _ ((Below.refl W.heap.size W)).drew | exact SW.out _ (D1.out).drew | exact SW.out _ (Below.refl W.heap.size W) | exact SW.out _ D1.out | exact SW.out _ (Below.alloc (Below.refl W.heap.size W) ((Below.refl W.heap.size W)).size _) | exact SW.out _ (Below.alloc D1.out (D1.out).size _) | exact SW.out _ (Below.alloc (Below.refl W.heap.size W) ((Below.refl W.heap.size W)).size _).drew | exact SW.out _ (Below.alloc D1.out (D1.out).size _).drew | fail) (first
    | (go_at_call 208
       (with_reducible refine (z1e 1 _).mono ?_)
       rintro e w1 ⟨rfl,hb1⟩;have D1:=Lib.hid ((((Below.refl W.heap.size W)).drew).trans (hb1.mono (((Below.refl W.heap.size W)).drew).size));clear hb1)
    | fail)
  go_wp2_with fail;refine (z1d s _).mono ?_;rintro e w2 ⟨rfl,hb2⟩;have D2:=Lib.hid ((D1.out).trans (hb2.mono (D1.out).size));clear hb2;go_wp2_with fail;refine (mkP0 base 2 0 .skip rfl _ (Nat.le_trans HB.out (Nat.le_trans BW.out.size D2.out.size))).mono ?_;rintro e w3 ⟨y3,rfl,hn3,hb3⟩;obtain ⟨_,ay3,cy3,rfl,-⟩:=id hn3;have D3:=Lib.hid ((D2.out).trans (hb3.mono (D2.out).size));have N3:=Lib.hid hn3;clear hn3 hb3;go_wp2_with fail;refine (mkP1 base 14 s (.fin s .skip) .skip rfl _ _ _ N3.out.nds (by simp [sz]) (Nat.le_trans HB.out (Nat.le_trans BW.out.size D3.out.size))).mono ?_;rintro e w4 ⟨y4,rfl,hn4,hb4⟩;obtain ⟨_,ay4,cy4,rfl,-⟩:=id hn4;have D4:=Lib.hid ((D3.out).trans (hb4.mono (D3.out).size));have N4:=Lib.hid hn4;clear hn4 hb4;go_wp2_with fail;go_ret;exact ⟨_,rfl,N4.out,BW.out.trans ((D4.out).mono BW.out.size)⟩
theorem y9x (base:Nat) (a d:Tm) (vA:Value) (vB:Value) (w:World) (hA:Nds w vA (flat a)) (hB:Nds w vB (flat d)) (qA11:kd a≠11) (hbs:base≤w.heap.size) (hl:sz a+sz d≤900) :
    Calls Tryz.prog 212 #[.agg #[.int .i64 12,.string ⟨#[]⟩,.int .i64 0],vA,vB] w (OutB base (.going a d) w):=by
  have HL:Hid (sz a+sz d≤900):=Lib.hid hl;have HB:=Lib.hid hbs;have AA:=Lib.hid (fun w1 (hb:Below w.heap.size w w1)=>hA.below hb);obtain ⟨bA,oA,cA,rfl,hcA,hltA,hwA,hatA⟩:=z1w hA;obtain ⟨nA,hnA⟩:∃ n,sz a=n+1:=⟨sz a-1,by have:=z0e a; omega⟩
  rw [hnA] at hcA AA ⊢;clear hnA;have g3A:(1:Int)≤(nA:Int)+1:=by omega
  have fA11:(kd a==11)=false:=by rw [beq_eq_false_iff_ne]; exact qA11
  obtain ⟨kA,hkA⟩:∃ k,kd a=k:=⟨_,rfl⟩
  obtain ⟨sA,hsA⟩:∃ s,sg a=s:=⟨_,rfl⟩
  obtain ⟨mA,hmA⟩:∃ m,nmT a=m:=⟨_,rfl⟩
  rw [hkA] at hwA fA11 qA11;rw [hsA,hmA] at hwA;clear hkA hsA hmA;have AB:=Lib.hid (fun w1 (hb:Below w.heap.size w w1)=>hB.below hb);obtain ⟨_,adB,cdB,rfl,-⟩:=id hB;have qe0:∀ w,(binOp .eql 68 (.agg #[.int .i64 kA,.string mA,.int .i64 sA]) (.agg #[.int .i64 11,.string ⟨#[]⟩,.int .i64 1])).run Tryz.prog w=.ok (.bool false) w:=fun w=>by rw [eq_bare]; exact congrArg (fun x=>Result.ok (Value.bool x) w) (decide_eq_false (fun e=>absurd (congrArg Nd.k e) qA11))
  unfold OutB;clear hl hbs qA11 hatA hA hB
  go_enter Tryz.func212,Tryz.ntmps212
  go_wp2_with fail;have BW0:=z0b w (.cells #[.int .i64 12,.string ⟨#[]⟩,.int .i64 0] 68);have BC:=z0m w 12 0 ⟨#[]⟩ 68;generalize w.alloc (.cells #[.int .i64 12,.string ⟨#[]⟩,.int .i64 0] 68)=W at BW0 BC ⊢;have BW:=Lib.hid BW0
  have SW:Hid (∀ w',Below W.heap.size W w'→w'.cell? ⟨bA,oA,none⟩=some (.int .i64 kA)∧w'.cell? ⟨bA,oA+1,none⟩=some (.string mA)∧w'.cell? ⟨bA,oA+2,none⟩=some (.int .i64 sA)∧w'.cell? ⟨w.heap.size,0,none⟩=some (.int .i64 12)∧w'.cell? ⟨w.heap.size,1,none⟩=some (.string ⟨#[]⟩)∧w'.cell? ⟨w.heap.size,2,none⟩=some (.int .i64 0)):=Lib.hid fun w1 hb=>by
    obtain ⟨x0,x1,x2⟩:=hwA w1 (BW.out.trans (hb.mono BW.out.size));obtain ⟨x3,x4,x5⟩:=BC w1 hb;exact ⟨x0,x1,x2,x3,x4,x5⟩
  clear BW0 BC hwA
  go_region_held3 (fun w'=>w'.cell? ⟨bA,oA,none⟩=some (.int .i64 kA)∧w'.cell? ⟨bA,oA+1,none⟩=some (.string mA)∧w'.cell? ⟨bA,oA+2,none⟩=some (.int .i64 sA)∧w'.cell? ⟨w.heap.size,0,none⟩=some (.int .i64 12)∧w'.cell? ⟨w.heap.size,1,none⟩=some (.string ⟨#[]⟩)∧w'.cell? ⟨w.heap.size,2,none⟩=some (.int .i64 0)) (first | exact SW.out _ ((Below.refl W.heap.size W)).drew | exact SW.out _ (D1.out).drew | exact SW.out _ (Below.refl W.heap.size W) | exact SW.out _ D1.out | exact SW.out _ (Below.alloc (Below.refl W.heap.size W) ((Below.refl W.heap.size W)).size _) | exact SW.out _ (Below.alloc D1.out (D1.out).size _) | exact SW.out _ (Below.alloc (Below.refl W.heap.size W) ((Below.refl W.heap.size W)).size _).drew | exact SW.out _ (Below.alloc D1.out (D1.out).size _).drew | fail) (first
    | (go_at_call 208
       (with_reducible refine (z1e 1 _).mono ?_)
       rintro e w1 ⟨rfl,hb1⟩;have D1:=Lib.hid ((((Below.refl W.heap.size W)).drew).trans (hb1.mono (((Below.refl W.heap.size W)).drew).size));clear hb1)
    | fail)
  go_wp2_with fail;refine (mkP2 base 12 0 (.going a d) a d rfl _ _ _ _ (AA.out _ (BW.out.trans ((D1.out).mono BW.out.size))) (AB.out _ (BW.out.trans ((D1.out).mono BW.out.size))) (by have:=HL.out; simp only [sz] at *; omega) (Nat.le_trans HB.out (Nat.le_trans BW.out.size D1.out.size))).mono ?_;rintro e w2 ⟨y2,rfl,hn2,hb2⟩;obtain ⟨_,ay2,cy2,rfl,-⟩:=id hn2;have D2:=Lib.hid ((D1.out).trans (hb2.mono (D1.out).size));have N2:=Lib.hid hn2;clear hn2 hb2;go_wp2_with fail;go_ret;exact ⟨_,rfl,N2.out,BW.out.trans ((D2.out).mono BW.out.size)⟩
theorem x6f (base:Nat) (a d:Tm) (va vd:Value) (w:World) (ha:Nds w va (flat a)) (hd:Nds w vd (flat d)) (hb:base≤w.heap.size) (hl:sz a+sz d≤900) :
    Calls Tryz.prog 212 #[.agg #[.int .i64 12,.string ⟨#[]⟩,.int .i64 0],va,vd] w (OutB base (sGoing a d) w):=by
  by_cases g11:kd a=11
  · obtain ⟨s,rfl⟩:=kd11 g11
    by_cases hs:s=1
    · subst hs;exact going_1 base d va vd w ha hd hb hl
    · have e:sGoing (.over s) d=.fin s .skip:=by simp [sGoing,hs]
      rw [e];exact x6e base s d va vd w ha hd hs hb hl
  · have e:sGoing a d=.going a d:=by cases a <;> first | rfl | exact absurd rfl g11
    rw [e];exact y9x base a d va vd w ha hd g11 hb hl
def fewB (l:List Nd):Bool:=decide (l.length≤120)&&decide (depth l≤24)

end Se
namespace Tr
open Go
abbrev Rst:=List ByteArray × List ByteArray
def heads (left:List Rst):List ByteArray:=left.flatMap fun q=>q.1.take 1++q.2.take 1
def bh1 (x:ByteArray) (q:Rst):List Rst:=(if q.2.head?=some x then [(q.1,q.2.tail)] else [])++(if q.1.head?=some x then [(q.1.tail,q.2)] else [])
def bh (x:ByteArray) (left:List Rst):List Rst:=left.flatMap (bh1 x)
def Good (n:Nat) (left:List Rst) (L:List (List ByteArray)):Prop:=
  L.Pairwise (fun r s=>row r s<0)∧∀ r,r∈L↔∃ q∈left,r∈mx n q.1 q.2
def Even (n:Nat) (left:List Rst):Prop:=∀ q∈left,q.1.length+q.2.length=n
def UpS (l:List ByteArray):Prop:=l.Pairwise fun x y=>ls x y=true
end Tr
end Go.Proofs.YtpingbiibbmcaaaGreatDoor
