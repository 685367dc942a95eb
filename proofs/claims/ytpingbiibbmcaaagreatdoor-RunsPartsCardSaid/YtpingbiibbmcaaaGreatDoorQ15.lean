/- Laws that the last text leans on. -/
import Derived.Test.YtpingbiibbmcaaaGreatDoorQ14

set_option maxRecDepth 20000
set_option maxHeartbeats 1000000
namespace Go.Proofs.YtpingbiibbmcaaaGreatDoor
namespace Se
open Go Go.RowKit Rw YtpingbiibbmcaaaGreatDoor.So
theorem x0g (s:Int) (c:Tm) (d:Tm) (va vd:Value) (w:World) (ha:Nds w va (flat (.fin s c))) (hd:Nds w vd (flat d)) (hl:sz (.fin s c)+sz d≤900) :
    Calls Tryz.prog 186 #[.int .i64 13,va,vd] w (OutN (.fin s (.seq c d)) w):=by
  have AA:=Lib.hid (fun w1 (hb:Below w.heap.size w w1)=>ha.below hb);have DD:=Lib.hid (fun w1 (hb:Below w.heap.size w w1)=>hd.below hb);obtain ⟨b,o,cp,rfl,hc,hlt,hw,hat⟩:=form ha;have HL:Hid (sz (.fin s c)+sz d≤900):=Lib.hid hl;have hp:=z0e (.fin s c);have TT:=Lib.hid (fun w1 (hb:Below w.heap.size w w1)=>(z0w hat hc).below hb);have hz:sz (.fin s c)=sz c+1:=rfl;rw [hz] at hc AA hp ⊢;obtain ⟨n,hn⟩:∃ n,sz c=n:=⟨_,rfl⟩
  have hp2:=z0e c;rw [hn] at hc TT AA hp hp2 ⊢;have g2:¬ cp=1:=by omega
  have g3:(1:Int)≤(n:Int)+1:=by omega
  clear hn hz;rw [show kd (.fin s c)=14 from rfl,show sg (.fin s c)=s from rfl] at hw;have SW:=Lib.hid hw;obtain ⟨e0,e2⟩:=hw w (Below.refl _ _);unfold OutN;clear hat ha hd hw hl
  go_enter Tryz.func186,Tryz.ntmps186
  go_wp2_with fail
  go_region_held3 (fun w'=>w'.cell? ⟨b,o,none⟩=some (.int .i64 14)) (first | exact e0 | exact (SW.out _ D1.out).1 | exact (SW.out _ D2.out).1 | exact (SW.out _ D3.out).1 | fail) (first
    | (go_at_call 242
       (with_reducible refine (z1a 5 0 _).mono ?_)
       rintro e w1 ⟨rfl,hb1⟩;have D1:=Lib.hid ((Below.refl w.heap.size w).drew.trans hb1);clear hb1)
    | (go_at_call 132
       (with_reducible refine (mk2R 5 .seq (fun _ _=>rfl) _ _ c d _ (TT.out _ D1.out) (DD.out _ D1.out) (by have:=HL.out; simp only [sz] at this; omega)).mono ?_)
       rintro e w2 ⟨y2,rfl,hn2,hb2⟩;have D2:=Lib.hid (D1.out.trans (hb2.mono D1.out.size));have N2:=Lib.hid hn2;clear hb2 hn2)
    | (go_at_call 243
       (with_reducible refine (z8k s y2 (.seq c d) _ N2.out (by have:=HL.out; simp only [sz] at this ⊢; omega)).mono ?_)
       rintro e w3 ⟨y3,rfl,hn3,hb3⟩;have D3:=Lib.hid (D2.out.trans (hb3.mono D2.out.size));have N3:=Lib.hid hn3;clear hb3 hn3)
    | fail)
  go_wp2_with fail;go_ret;exact ⟨_,rfl,N3.out,D3.out⟩
theorem y4b (a:Tm) (d:Tm) (va vd:Value) (w:World) (ha:Nds w va (flat a)) (hd:Nds w vd (flat d)) (h11:kd a≠11) (h14:kd a≠14) (hl:sz a+sz d≤900) :
    Calls Tryz.prog 186 #[.int .i64 13,va,vd] w (OutN (.stack a d) w):=by
  have AA:=Lib.hid (fun w1 (hb:Below w.heap.size w w1)=>ha.below hb);have DD:=Lib.hid (fun w1 (hb:Below w.heap.size w w1)=>hd.below hb);obtain ⟨b,o,cp,rfl,hc,hlt,hw,hat⟩:=form ha;have HL:Hid (sz a+sz d≤900):=Lib.hid hl;have hp:=z0e a;obtain ⟨n,hn⟩:∃ n,sz a=n:=⟨_,rfl⟩
  rw [hn] at hc AA hp ⊢;have g3:(1:Int)≤(n:Int):=by omega
  have g4:(0:Int)<(n:Int):=by omega
  clear hn;have f1:(kd a==11)=false:=by rw [beq_eq_false_iff_ne]; exact h11
  have f2:(kd a==14)=false:=by rw [beq_eq_false_iff_ne]; exact h14
  obtain ⟨k,hk⟩:∃ k,kd a=k:=⟨_,rfl⟩
  obtain ⟨s,hs⟩:∃ s,sg a=s:=⟨_,rfl⟩
  rw [hk] at hw f1 f2;rw [hs] at hw;clear hk hs h11 h14;have SW:=Lib.hid hw;obtain ⟨e0,e2⟩:=hw w (Below.refl _ _);unfold OutN;clear hat ha hd hw hl
  go_enter Tryz.func186,Tryz.ntmps186
  go_wp2_with fail;refine (z1a 13 0 _).mono ?_;rintro e w1 ⟨rfl,hb1⟩;have D1:=Lib.hid hb1;clear hb1;go_wp2_with fail;refine (mk2R 13 .stack (fun _ _=>rfl) _ _ a d _ (AA.out _ D1.out) (DD.out _ D1.out) (by have:=HL.out; omega)).mono ?_;rintro e w2 ⟨y,rfl,hn,hb⟩;have N2:=Lib.hid hn;have D2:=Lib.hid (D1.out.trans (hb.mono D1.out.size));clear hn hb;go_wp2_with fail;go_ret;exact ⟨_,rfl,N2.out,D2.out⟩
theorem kd14 {a:Tm} (h:kd a=14):∃ s c,a=.fin s c:=by
  cases a <;> first | exact ⟨_,_,rfl⟩ | simp [kd,flat,hd,nOf] at h
theorem kd11 {a:Tm} (h:kd a=11):∃ s,a=.over s:=by
  cases a <;> first | exact ⟨_,rfl⟩ | simp [kd,flat,hd,nOf] at h
theorem y5j {a d:Tm} (h:kd a≠14):stk a d=.stack a d:=by
  cases a <;> first | rfl | exact absurd rfl h
theorem y0h (a d:Tm) (va vd:Value) (w:World) (ha:Nds w va (flat a)) (hd:Nds w vd (flat d)) (h11:kd a≠11) (hl:sz a+sz d≤900) :
    Calls Tryz.prog 186 #[.int .i64 13,va,vd] w (OutN (stk a d) w):=by
  by_cases h14:kd a=14
  · obtain ⟨s,c,rfl⟩:=kd14 h14;exact x0g s c d va vd w ha hd hl
  · rw [y5j h14];exact y4b a d va vd w ha hd h11 h14 hl
abbrev RS (t:Tm):Prop:=∀ (v:Value) (w:World),Nds w v (flat t)→Calls Tryz.prog 117 #[v] w (OutN (S t) w)
theorem x0d  (d:Tm) (va vd:Value) (w:World) (ha:Nds w va (flat (.over 1))) (hd:Nds w vd (flat d)) (RB:Hid (RS d)) (hl:sz (.over 1)+sz d≤900) :
    Calls Tryz.prog 186 #[.int .i64 5,va,vd] w (OutN (S d) w):=by
  have AA:=Lib.hid (fun w1 (hb:Below w.heap.size w w1)=>ha.below hb);have DD:=Lib.hid (fun w1 (hb:Below w.heap.size w w1)=>hd.below hb);obtain ⟨b,o,cp,rfl,hc,hlt,hw,hat⟩:=form ha;have HL:Hid (sz (.over 1)+sz d≤900):=Lib.hid hl;have hp:=z0e (.over 1);obtain ⟨n,hn⟩:∃ n,sz (.over 1)=n:=⟨_,rfl⟩
  rw [hn] at hc AA hp ⊢;have g3:(1:Int)≤(n:Int):=by omega
  have g4:(0:Int)<(n:Int):=by omega
  clear hn;rw [show kd (.over 1)=11 from rfl,show sg (.over 1)=1 from rfl] at hw;have SW:=Lib.hid hw;obtain ⟨e0,e2⟩:=hw w (Below.refl _ _);unfold OutN;clear hat ha hd hw hl
  go_enter Tryz.func186,Tryz.ntmps186
  go_wp2_with fail;refine (RB.out vd _ (DD.out _ (Below.refl _ _))).mono ?_;rintro e w1 ⟨y,rfl,hn,hb⟩;have N1:=Lib.hid hn;have D1:=Lib.hid hb;clear hn hb;go_wp2_with fail;go_ret;exact ⟨_,rfl,N1.out,D1.out⟩
theorem x0e (s:Int) (d:Tm) (va vd:Value) (w:World) (ha:Nds w va (flat (.over s))) (hd:Nds w vd (flat d)) (hs:s≠1) (hl:sz (.over s)+sz d≤900) :
    Calls Tryz.prog 186 #[.int .i64 5,va,vd] w (OutN (.over s) w):=by
  have AA:=Lib.hid (fun w1 (hb:Below w.heap.size w w1)=>ha.below hb);have DD:=Lib.hid (fun w1 (hb:Below w.heap.size w w1)=>hd.below hb);obtain ⟨b,o,cp,rfl,hc,hlt,hw,hat⟩:=form ha;have HL:Hid (sz (.over s)+sz d≤900):=Lib.hid hl;have hp:=z0e (.over s);obtain ⟨n,hn⟩:∃ n,sz (.over s)=n:=⟨_,rfl⟩
  rw [hn] at hc AA hp ⊢;have g3:(1:Int)≤(n:Int):=by omega
  have g4:(0:Int)<(n:Int):=by omega
  clear hn;rw [show kd (.over s)=11 from rfl,show sg (.over s)=s from rfl] at hw;have f3:(s==1)=false:=by rw [beq_eq_false_iff_ne]; exact hs
  clear hs;have SW:=Lib.hid hw;obtain ⟨e0,e2⟩:=hw w (Below.refl _ _);unfold OutN;clear hat ha hd hw hl
  go_enter Tryz.func186,Tryz.ntmps186
  go_wp2_with fail;go_ret;exact ⟨_,rfl,AA.out w (Below.refl _ _),Below.refl _ _⟩
theorem x0f (c:Tm) (d:Tm) (va vd:Value) (w:World) (ha:Nds w va (flat (.fin 1 c))) (hd:Nds w vd (flat d)) (RB:Hid (RS d)) (h11:kd (S d)≠11) (hl:sz (.fin 1 c)+sz d≤900) :
    Calls Tryz.prog 186 #[.int .i64 5,va,vd] w (OutN (stk (S d) c) w):=by
  have AA:=Lib.hid (fun w1 (hb:Below w.heap.size w w1)=>ha.below hb);have DD:=Lib.hid (fun w1 (hb:Below w.heap.size w w1)=>hd.below hb);obtain ⟨b,o,cp,rfl,hc,hlt,hw,hat⟩:=form ha;have HL:Hid (sz (.fin 1 c)+sz d≤900):=Lib.hid hl;have hp:=z0e (.fin 1 c);have TT:=Lib.hid (fun w1 (hb:Below w.heap.size w w1)=>(z0w hat hc).below hb);have hz:sz (.fin 1 c)=sz c+1:=rfl;rw [hz] at hc AA hp ⊢;obtain ⟨n,hn⟩:∃ n,sz c=n:=⟨_,rfl⟩
  have hp2:=z0e c;rw [hn] at hc TT AA hp hp2 ⊢;have g2:¬ cp=1:=by omega
  have g3:(1:Int)≤(n:Int)+1:=by omega
  clear hn hz;rw [show kd (.fin 1 c)=14 from rfl,show sg (.fin 1 c)=1 from rfl] at hw;have H11:=Lib.hid h11;clear h11;have SW:=Lib.hid hw;obtain ⟨e0,e2⟩:=hw w (Below.refl _ _);unfold OutN;clear hat ha hd hw hl
  go_enter Tryz.func186,Tryz.ntmps186
  go_wp2_with fail
  go_region_held3 (fun w'=>w'.cell? ⟨b,o,none⟩=some (.int .i64 14)) (first | exact e0 | exact (SW.out _ D1.out).1 | exact (SW.out _ D2.out).1 | fail) (first
    | (go_at_call 117
       (with_reducible refine (RB.out vd _ (DD.out _ (Below.refl _ _).drew)).mono ?_)
       rintro e w1 ⟨y1,rfl,hn1,hb1⟩;have D1:=Lib.hid ((Below.refl w.heap.size w).drew.trans hb1);have N1:=Lib.hid hn1;clear hb1 hn1)
    | (go_at_call 186
       (with_reducible refine (y0h (S d) c _ _ _ N1.out (TT.out _ D1.out) H11.out (by have:=HL.out; have:=S_sz d; simp only [sz] at *; omega)).mono ?_)
       rintro e w2 ⟨y2,rfl,hn2,hb2⟩;have D2:=Lib.hid (D1.out.trans (hb2.mono D1.out.size));have N2:=Lib.hid hn2;clear hb2 hn2)
    | fail)
  go_wp2_with fail;go_ret;exact ⟨_,rfl,N2.out,D2.out⟩
theorem x6i (s:Int) (c:Tm) (d:Tm) (va vd:Value) (w:World) (ha:Nds w va (flat (.fin s c))) (hd:Nds w vd (flat d)) (hs:s≠1) (hl:sz (.fin s c)+sz d≤900) :
    Calls Tryz.prog 186 #[.int .i64 5,va,vd] w (OutN (.fin s c) w):=by
  have AA:=Lib.hid (fun w1 (hb:Below w.heap.size w w1)=>ha.below hb);have DD:=Lib.hid (fun w1 (hb:Below w.heap.size w w1)=>hd.below hb);obtain ⟨b,o,cp,rfl,hc,hlt,hw,hat⟩:=form ha;have HL:Hid (sz (.fin s c)+sz d≤900):=Lib.hid hl;have hp:=z0e (.fin s c);have TT:=Lib.hid (fun w1 (hb:Below w.heap.size w w1)=>(z0w hat hc).below hb);have hz:sz (.fin s c)=sz c+1:=rfl;rw [hz] at hc AA hp ⊢;obtain ⟨n,hn⟩:∃ n,sz c=n:=⟨_,rfl⟩
  have hp2:=z0e c;rw [hn] at hc TT AA hp hp2 ⊢;have g2:¬ cp=1:=by omega
  have g3:(1:Int)≤(n:Int)+1:=by omega
  clear hn hz;rw [show kd (.fin s c)=14 from rfl,show sg (.fin s c)=s from rfl] at hw;have f3:(s==1)=false:=by rw [beq_eq_false_iff_ne]; exact hs
  clear hs;have SW:=Lib.hid hw;obtain ⟨e0,e2⟩:=hw w (Below.refl _ _);unfold OutN;clear hat ha hd hw hl
  go_enter Tryz.func186,Tryz.ntmps186
  go_wp2_with fail;go_ret;exact ⟨_,rfl,AA.out w (Below.refl _ _),Below.refl _ _⟩
theorem y6u (a:Tm) (d:Tm) (va vd:Value) (w:World) (ha:Nds w va (flat a)) (hd:Nds w vd (flat d)) (h11:kd a≠11) (h14:kd a≠14) (hl:sz a+sz d≤900) :
    Calls Tryz.prog 186 #[.int .i64 5,va,vd] w (OutN (.seq a d) w):=by
  have AA:=Lib.hid (fun w1 (hb:Below w.heap.size w w1)=>ha.below hb);have DD:=Lib.hid (fun w1 (hb:Below w.heap.size w w1)=>hd.below hb);obtain ⟨b,o,cp,rfl,hc,hlt,hw,hat⟩:=form ha;have HL:Hid (sz a+sz d≤900):=Lib.hid hl;have hp:=z0e a;obtain ⟨n,hn⟩:∃ n,sz a=n:=⟨_,rfl⟩
  rw [hn] at hc AA hp ⊢;have g3:(1:Int)≤(n:Int):=by omega
  have g4:(0:Int)<(n:Int):=by omega
  clear hn;have f1:(kd a==11)=false:=by rw [beq_eq_false_iff_ne]; exact h11
  have f2:(kd a==14)=false:=by rw [beq_eq_false_iff_ne]; exact h14
  obtain ⟨k,hk⟩:∃ k,kd a=k:=⟨_,rfl⟩
  obtain ⟨s,hs⟩:∃ s,sg a=s:=⟨_,rfl⟩
  rw [hk] at hw f1 f2;rw [hs] at hw;clear hk hs h11 h14;have SW:=Lib.hid hw;obtain ⟨e0,e2⟩:=hw w (Below.refl _ _);unfold OutN;clear hat ha hd hw hl
  go_enter Tryz.func186,Tryz.ntmps186
  go_wp2_with fail;refine (z1a 5 0 _).mono ?_;rintro e w1 ⟨rfl,hb1⟩;have D1:=Lib.hid hb1;clear hb1;go_wp2_with fail;refine (mk2R 5 .seq (fun _ _=>rfl) _ _ a d _ (AA.out _ D1.out) (DD.out _ D1.out) (by have:=HL.out; omega)).mono ?_;rintro e w2 ⟨y,rfl,hn,hb⟩;have N2:=Lib.hid hn;have D2:=Lib.hid (D1.out.trans (hb.mono D1.out.size));clear hn hb;go_wp2_with fail;go_ret;exact ⟨_,rfl,N2.out,D2.out⟩
theorem x0c  (d:Tm) (va vd:Value) (w:World) (ha:Nds w va (flat (.over 2))) (hd:Nds w vd (flat d)) (RB:Hid (RS d)) (hl:sz (.over 2)+sz d≤900) :
    Calls Tryz.prog 186 #[.int .i64 8,va,vd] w (OutN (S d) w):=by
  have AA:=Lib.hid (fun w1 (hb:Below w.heap.size w w1)=>ha.below hb);have DD:=Lib.hid (fun w1 (hb:Below w.heap.size w w1)=>hd.below hb);obtain ⟨b,o,cp,rfl,hc,hlt,hw,hat⟩:=form ha;have HL:Hid (sz (.over 2)+sz d≤900):=Lib.hid hl;have hp:=z0e (.over 2);obtain ⟨n,hn⟩:∃ n,sz (.over 2)=n:=⟨_,rfl⟩
  rw [hn] at hc AA hp ⊢;have g3:(1:Int)≤(n:Int):=by omega
  have g4:(0:Int)<(n:Int):=by omega
  clear hn;rw [show kd (.over 2)=11 from rfl,show sg (.over 2)=2 from rfl] at hw;have SW:=Lib.hid hw;obtain ⟨e0,e2⟩:=hw w (Below.refl _ _);unfold OutN;clear hat ha hd hw hl
  go_enter Tryz.func186,Tryz.ntmps186
  go_wp2_with fail;refine (RB.out vd _ (DD.out _ (Below.refl _ _))).mono ?_;rintro e w1 ⟨y,rfl,hn,hb⟩;have N1:=Lib.hid hn;have D1:=Lib.hid hb;clear hn hb;go_wp2_with fail;go_ret;exact ⟨_,rfl,N1.out,D1.out⟩
theorem x0b (s:Int) (d:Tm) (va vd:Value) (w:World) (ha:Nds w va (flat (.over s))) (hd:Nds w vd (flat d)) (hs:s≠2) (hl:sz (.over s)+sz d≤900) :
    Calls Tryz.prog 186 #[.int .i64 8,va,vd] w (OutN (.over s) w):=by
  have AA:=Lib.hid (fun w1 (hb:Below w.heap.size w w1)=>ha.below hb);have DD:=Lib.hid (fun w1 (hb:Below w.heap.size w w1)=>hd.below hb);obtain ⟨b,o,cp,rfl,hc,hlt,hw,hat⟩:=form ha;have HL:Hid (sz (.over s)+sz d≤900):=Lib.hid hl;have hp:=z0e (.over s);obtain ⟨n,hn⟩:∃ n,sz (.over s)=n:=⟨_,rfl⟩
  rw [hn] at hc AA hp ⊢;have g3:(1:Int)≤(n:Int):=by omega
  have g4:(0:Int)<(n:Int):=by omega
  clear hn;rw [show kd (.over s)=11 from rfl,show sg (.over s)=s from rfl] at hw;have f3:(s==2)=false:=by rw [beq_eq_false_iff_ne]; exact hs
  clear hs;have SW:=Lib.hid hw;obtain ⟨e0,e2⟩:=hw w (Below.refl _ _);unfold OutN;clear hat ha hd hw hl
  go_enter Tryz.func186,Tryz.ntmps186
  go_wp2_with fail;go_ret;exact ⟨_,rfl,AA.out w (Below.refl _ _),Below.refl _ _⟩
theorem y6t (a:Tm) (d:Tm) (va vd:Value) (w:World) (ha:Nds w va (flat a)) (hd:Nds w vd (flat d)) (h11:kd a≠11) (h14:kd a≠14) (hl:sz a+sz d≤900) :
    Calls Tryz.prog 186 #[.int .i64 8,va,vd] w (OutN (.hand a d) w):=by
  have AA:=Lib.hid (fun w1 (hb:Below w.heap.size w w1)=>ha.below hb);have DD:=Lib.hid (fun w1 (hb:Below w.heap.size w w1)=>hd.below hb);obtain ⟨b,o,cp,rfl,hc,hlt,hw,hat⟩:=form ha;have HL:Hid (sz a+sz d≤900):=Lib.hid hl;have hp:=z0e a;obtain ⟨n,hn⟩:∃ n,sz a=n:=⟨_,rfl⟩
  rw [hn] at hc AA hp ⊢;have g3:(1:Int)≤(n:Int):=by omega
  have g4:(0:Int)<(n:Int):=by omega
  clear hn;have f1:(kd a==11)=false:=by rw [beq_eq_false_iff_ne]; exact h11
  have f2:(kd a==14)=false:=by rw [beq_eq_false_iff_ne]; exact h14
  obtain ⟨k,hk⟩:∃ k,kd a=k:=⟨_,rfl⟩
  obtain ⟨s,hs⟩:∃ s,sg a=s:=⟨_,rfl⟩
  rw [hk] at hw f1 f2;rw [hs] at hw;clear hk hs h11 h14;have SW:=Lib.hid hw;obtain ⟨e0,e2⟩:=hw w (Below.refl _ _);unfold OutN;clear hat ha hd hw hl
  go_enter Tryz.func186,Tryz.ntmps186
  go_wp2_with fail;refine (z1a 8 0 _).mono ?_;rintro e w1 ⟨rfl,hb1⟩;have D1:=Lib.hid hb1;clear hb1;go_wp2_with fail;refine (mk2R 8 .hand (fun _ _=>rfl) _ _ a d _ (AA.out _ D1.out) (DD.out _ D1.out) (by have:=HL.out; omega)).mono ?_;rintro e w2 ⟨y,rfl,hn,hb⟩;have N2:=Lib.hid hn;have D2:=Lib.hid (D1.out.trans (hb.mono D1.out.size));clear hn hb;go_wp2_with fail;go_ret;exact ⟨_,rfl,N2.out,D2.out⟩
theorem y6v  (d:Tm) (va vd:Value) (w:World) (ha:Nds w va (flat (.over 1))) (hd:Nds w vd (flat d)) (hl:sz (.over 1)+sz d≤900) :
    Calls Tryz.prog 186 #[.int .i64 12,va,vd] w (OutN (.fin 1 d) w):=by
  have AA:=Lib.hid (fun w1 (hb:Below w.heap.size w w1)=>ha.below hb);have DD:=Lib.hid (fun w1 (hb:Below w.heap.size w w1)=>hd.below hb);obtain ⟨b,o,cp,rfl,hc,hlt,hw,hat⟩:=form ha;have HL:Hid (sz (.over 1)+sz d≤900):=Lib.hid hl;have hp:=z0e (.over 1);obtain ⟨n,hn⟩:∃ n,sz (.over 1)=n:=⟨_,rfl⟩
  rw [hn] at hc AA hp ⊢;have g3:(1:Int)≤(n:Int):=by omega
  have g4:(0:Int)<(n:Int):=by omega
  clear hn;rw [show kd (.over 1)=11 from rfl,show sg (.over 1)=1 from rfl] at hw;have SW:=Lib.hid hw;obtain ⟨e0,e2⟩:=hw w (Below.refl _ _);unfold OutN;clear hat ha hd hw hl
  go_enter Tryz.func186,Tryz.ntmps186
  go_wp2_with fail;refine (z8k 1 vd d _ (DD.out _ (Below.refl _ _)) (by have:=HL.out; omega)).mono ?_;rintro e w1 ⟨y,rfl,hn,hb⟩;have N1:=Lib.hid hn;have D1:=Lib.hid hb;clear hn hb;go_wp2_with fail;go_ret;exact ⟨_,rfl,N1.out,D1.out⟩
theorem y6w (s:Int) (d:Tm) (va vd:Value) (w:World) (ha:Nds w va (flat (.over s))) (hd:Nds w vd (flat d)) (hs:s≠1) (hl:sz (.over s)+sz d≤900) :
    Calls Tryz.prog 186 #[.int .i64 12,va,vd] w (OutN (.fin s .skip) w):=by
  have AA:=Lib.hid (fun w1 (hb:Below w.heap.size w w1)=>ha.below hb);have DD:=Lib.hid (fun w1 (hb:Below w.heap.size w w1)=>hd.below hb);obtain ⟨b,o,cp,rfl,hc,hlt,hw,hat⟩:=form ha;have HL:Hid (sz (.over s)+sz d≤900):=Lib.hid hl;have hp:=z0e (.over s);obtain ⟨n,hn⟩:∃ n,sz (.over s)=n:=⟨_,rfl⟩
  rw [hn] at hc AA hp ⊢;have g3:(1:Int)≤(n:Int):=by omega
  have g4:(0:Int)<(n:Int):=by omega
  clear hn;rw [show kd (.over s)=11 from rfl,show sg (.over s)=s from rfl] at hw;have f3:(s==1)=false:=by rw [beq_eq_false_iff_ne]; exact hs
  clear hs;have SW:=Lib.hid hw;obtain ⟨e0,e2⟩:=hw w (Below.refl _ _);unfold OutN;clear hat ha hd hw hl
  go_enter Tryz.func186,Tryz.ntmps186
  go_wp2_with fail;refine (z1a 2 0 _).mono ?_;rintro e w1 ⟨rfl,hb1⟩;have D1:=Lib.hid hb1;clear hb1;go_wp2_with fail;have D1':=Lib.hid (D1.out.alloc D1.out.size (.cells #[.int .i64 2,.string ⟨#[]⟩,.int .i64 0] 68));refine (z8k s _ .skip _ (nds_skip w1 _) (by simp [sz])).mono ?_;rintro e w2 ⟨y,rfl,hn,hb⟩;have N2:=Lib.hid hn;have D2:=Lib.hid (D1'.out.trans (hb.mono D1'.out.size));clear hn hb;go_wp2_with fail;go_ret;exact ⟨_,rfl,N2.out,D2.out⟩
theorem y4c (a:Tm) (d:Tm) (va vd:Value) (w:World) (ha:Nds w va (flat a)) (hd:Nds w vd (flat d)) (h11:kd a≠11) (h14:kd a≠14) (hl:sz a+sz d≤900) :
    Calls Tryz.prog 186 #[.int .i64 12,va,vd] w (OutN (.going a d) w):=by
  have AA:=Lib.hid (fun w1 (hb:Below w.heap.size w w1)=>ha.below hb);have DD:=Lib.hid (fun w1 (hb:Below w.heap.size w w1)=>hd.below hb);obtain ⟨b,o,cp,rfl,hc,hlt,hw,hat⟩:=form ha;have HL:Hid (sz a+sz d≤900):=Lib.hid hl;have hp:=z0e a;obtain ⟨n,hn⟩:∃ n,sz a=n:=⟨_,rfl⟩
  rw [hn] at hc AA hp ⊢;have g3:(1:Int)≤(n:Int):=by omega
  have g4:(0:Int)<(n:Int):=by omega
  clear hn;have f1:(kd a==11)=false:=by rw [beq_eq_false_iff_ne]; exact h11
  have f2:(kd a==14)=false:=by rw [beq_eq_false_iff_ne]; exact h14
  obtain ⟨k,hk⟩:∃ k,kd a=k:=⟨_,rfl⟩
  obtain ⟨s,hs⟩:∃ s,sg a=s:=⟨_,rfl⟩
  rw [hk] at hw f1 f2;rw [hs] at hw;clear hk hs h11 h14;have SW:=Lib.hid hw;obtain ⟨e0,e2⟩:=hw w (Below.refl _ _);unfold OutN;clear hat ha hd hw hl
  go_enter Tryz.func186,Tryz.ntmps186
  go_wp2_with fail;refine (z1a 12 0 _).mono ?_;rintro e w1 ⟨rfl,hb1⟩;have D1:=Lib.hid hb1;clear hb1;go_wp2_with fail;refine (mk2R 12 .going (fun _ _=>rfl) _ _ a d _ (AA.out _ D1.out) (DD.out _ D1.out) (by have:=HL.out; omega)).mono ?_;rintro e w2 ⟨y,rfl,hn,hb⟩;have N2:=Lib.hid hn;have D2:=Lib.hid (D1.out.trans (hb.mono D1.out.size));clear hn hb;go_wp2_with fail;go_ret;exact ⟨_,rfl,N2.out,D2.out⟩
theorem x6j (a d:Tm) (va vd:Value) (w:World) (ha:Nds w va (flat a)) (hd:Nds w vd (flat d)) (RB:RS d) (h11:kd a=14→kd (S d)≠11) (hl:sz a+sz d≤900) :
    Calls Tryz.prog 186 #[.int .i64 5,va,vd] w (OutN (sSeq S a d) w):=by
  by_cases g11:kd a=11
  · obtain ⟨s,rfl⟩:=kd11 g11
    by_cases hs:s=1
    · subst hs;exact x0d d va vd w ha hd (Lib.hid RB) hl
    · have e:sSeq S (.over s) d=.over s:=by simp [sSeq,hs]
      rw [e];exact x0e s d va vd w ha hd hs hl
  · by_cases g14:kd a=14
    · have h:=h11 g14;obtain ⟨s,c,rfl⟩:=kd14 g14
      by_cases hs:s=1
      · subst hs;exact x0f c d va vd w ha hd (Lib.hid RB) h hl
      · have e:sSeq S (.fin s c) d=.fin s c:=by simp [sSeq,hs]
        rw [e];exact x6i s c d va vd w ha hd hs hl
    · have e:sSeq S a d=.seq a d:=by cases a <;> first | rfl | exact absurd rfl g11 | exact absurd rfl g14
      rw [e];exact y6u a d va vd w ha hd g11 g14 hl
theorem x6h (a d:Tm) (va vd:Value) (w:World) (ha:Nds w va (flat a)) (hd:Nds w vd (flat d)) (RB:RS d) (g14:kd a≠14) (hl:sz a+sz d≤900) :
    Calls Tryz.prog 186 #[.int .i64 8,va,vd] w (OutN (sHand S a d) w):=by
  by_cases g11:kd a=11
  · obtain ⟨s,rfl⟩:=kd11 g11
    by_cases hs:s=2
    · subst hs;exact x0c d va vd w ha hd (Lib.hid RB) hl
    · have e:sHand S (.over s) d=.over s:=by simp [sHand,hs]
      rw [e];exact x0b s d va vd w ha hd hs hl
  · have e:sHand S a d=.hand a d:=by cases a <;> first | rfl | exact absurd rfl g11 | exact absurd rfl g14
    rw [e];exact y6t a d va vd w ha hd g11 g14 hl
theorem x0h (a d:Tm) (va vd:Value) (w:World) (ha:Nds w va (flat a)) (hd:Nds w vd (flat d)) (g14:kd a≠14) (hl:sz a+sz d≤900) :
    Calls Tryz.prog 186 #[.int .i64 12,va,vd] w (OutN (sGoing a d) w):=by
  by_cases g11:kd a=11
  · obtain ⟨s,rfl⟩:=kd11 g11
    by_cases hs:s=1
    · subst hs;exact y6v d va vd w ha hd hl
    · have e:sGoing (.over s) d=.fin s .skip:=by simp [sGoing,hs]
      rw [e];exact y6w s d va vd w ha hd hs hl
  · have e:sGoing a d=.going a d:=by cases a <;> first | rfl | exact absurd rfl g11 | exact absurd rfl g14
    rw [e];exact y4c a d va vd w ha hd g11 g14 hl
end Se
namespace Tr
open Go Go.RowKit
theorem map_snoc {α β:Type} (f:α→β) (rs:List α) (k:Nat) (h:k<rs.length):(rs.take (k+1)).map f=(rs.take k).map f++[f rs[k]]:=by
  rw [List.take_succ_eq_append_getElem h,List.map_append]
  rfl
end Tr
namespace Rf
open Go Go.RowKit Rw

end Rf
end Go.Proofs.YtpingbiibbmcaaaGreatDoor
