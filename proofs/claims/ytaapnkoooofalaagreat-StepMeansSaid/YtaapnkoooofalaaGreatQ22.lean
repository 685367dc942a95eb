/- Laws that the last text leans on. -/
import Derived.Test.YtaapnkoooofalaaGreatQ20

set_option maxRecDepth 20000
set_option maxHeartbeats 1000000
namespace Go.Proofs.YtaapnkoooofalaaGreat
namespace Se
open Go Go.RowKit Rw So
theorem v0q (base:Nat) (a d:Tm) (bk ck:Nat) (y0 y1:Value) (w:World) (q0:w.cell? ⟨bk,0,none⟩=some y0) (q1:w.cell? ⟨bk,1,none⟩=some y1) (h0:NdO base w y0 a) (h1:Nds w y1 (flat d)) (PB:Hid (PS d)) (hb:base≤w.heap.size) (hl:sz a+sz d≤900) :
    Calls Tryz.prog 98 #[.agg #[.int .i64 5,.string ⟨#[]⟩,.int .i64 0],.slice (some ⟨bk,0,none⟩) 2 ck] w (OutB base (sSeq S a d) w):=by
  have HL:=Lib.hid hl;have HB:=Lib.hid hb;have hlt:bk<w.heap.size:=Ap.z0a q0;have CK:Hid (∀ w1,Below w.heap.size w w1→w1.cell? ⟨bk,0,none⟩=some y0∧w1.cell? ⟨bk,1,none⟩=some y1):=Lib.hid fun w1 hb=>by rw [hb.cell (p:=⟨bk,0,none⟩) hlt,hb.cell (p:=⟨bk,1,none⟩) hlt]; exact ⟨q0,q1⟩
  have A0:=Lib.hid (fun w1 (hb:Below w.heap.size w w1)=>h0.below hb);have A1:=Lib.hid (fun w1 (hb:Below w.heap.size w w1)=>h1.below hb);obtain ⟨_,a0,c0,rfl,-⟩:=id h0;obtain ⟨_,a1,c1,rfl,-⟩:=id h1;unfold OutB;clear q0 q1 h0 h1 hl hb
  go_enter Tryz.func98,Tryz.ntmps98
  go_wp2_with fail;have BW0:=z0f w (.cells #[.int .i64 5,.string ⟨#[]⟩,.int .i64 0] 36);have BC:=z0p w 5 0 ⟨#[]⟩ 36;generalize w.alloc (.cells #[.int .i64 5,.string ⟨#[]⟩,.int .i64 0] 36)=W at BW0 BC ⊢;have BW:=Lib.hid BW0;obtain ⟨x0,x1,x2⟩:=BC W (Below.refl _ _);obtain ⟨z0,z1⟩:=CK.out W BW0;have BD:=Lib.hid (BW.out.drew);clear BW0 BC
  go_still_tail 8,(by kernel_rfl)
  change wpList _ _ _ _ _ W.drew;go_wp2_with fail;refine (x2k base a d _ _ _ (A0.out _ BD.out) (A1.out _ BD.out) PB.out (Nat.le_trans HB.out BD.out.size) HL.out).mono ?_;rintro e w1 ⟨y,rfl,hn,hb⟩;have N1:=Lib.hid hn;have D1:=Lib.hid (BD.out.trans (hb.mono BD.out.size));clear hn hb;go_wp2_with fail;go_ret;exact ⟨_,rfl,N1.out,D1.out⟩
theorem x4f (base:Nat) (a d:Tm) (bk ck:Nat) (y0 y1:Value) (w:World) (q0:w.cell? ⟨bk,0,none⟩=some y0) (q1:w.cell? ⟨bk,1,none⟩=some y1) (h0:NdO base w y0 a) (h1:Nds w y1 (flat d)) (PB:Hid (PS d)) (g14:Hid (kd a≠14)) (hb:base≤w.heap.size) (hl:sz a+sz d≤900) :
    Calls Tryz.prog 98 #[.agg #[.int .i64 8,.string ⟨#[]⟩,.int .i64 0],.slice (some ⟨bk,0,none⟩) 2 ck] w (OutB base (sHand S a d) w):=by
  have HL:=Lib.hid hl;have HB:=Lib.hid hb;have hlt:bk<w.heap.size:=Ap.z0a q0;have CK:Hid (∀ w1,Below w.heap.size w w1→w1.cell? ⟨bk,0,none⟩=some y0∧w1.cell? ⟨bk,1,none⟩=some y1):=Lib.hid fun w1 hb=>by rw [hb.cell (p:=⟨bk,0,none⟩) hlt,hb.cell (p:=⟨bk,1,none⟩) hlt]; exact ⟨q0,q1⟩
  have A0:=Lib.hid (fun w1 (hb:Below w.heap.size w w1)=>h0.below hb);have A1:=Lib.hid (fun w1 (hb:Below w.heap.size w w1)=>h1.below hb);obtain ⟨_,a0,c0,rfl,-⟩:=id h0;obtain ⟨_,a1,c1,rfl,-⟩:=id h1;unfold OutB;clear q0 q1 h0 h1 hl hb
  go_enter Tryz.func98,Tryz.ntmps98
  go_wp2_with fail;have BW0:=z0f w (.cells #[.int .i64 8,.string ⟨#[]⟩,.int .i64 0] 36);have BC:=z0p w 8 0 ⟨#[]⟩ 36;generalize w.alloc (.cells #[.int .i64 8,.string ⟨#[]⟩,.int .i64 0] 36)=W at BW0 BC ⊢;have BW:=Lib.hid BW0;obtain ⟨x0,x1,x2⟩:=BC W (Below.refl _ _);obtain ⟨z0,z1⟩:=CK.out W BW0;have BD:=Lib.hid (BW.out.drew);clear BW0 BC
  go_still_tail 8,(by kernel_rfl)
  change wpList _ _ _ _ _ W.drew;go_wp2_with fail;refine (x2i base a d _ _ _ (A0.out _ BD.out) (A1.out _ BD.out) PB.out g14.out (Nat.le_trans HB.out BD.out.size) HL.out).mono ?_;rintro e w1 ⟨y,rfl,hn,hb⟩;have N1:=Lib.hid hn;have D1:=Lib.hid (BD.out.trans (hb.mono BD.out.size));clear hn hb;go_wp2_with fail;go_ret;exact ⟨_,rfl,N1.out,D1.out⟩
theorem v0r (base:Nat) (a d:Tm) (bk ck:Nat) (y0 y1:Value) (w:World) (q0:w.cell? ⟨bk,0,none⟩=some y0) (q1:w.cell? ⟨bk,1,none⟩=some y1) (h0:NdO base w y0 a) (h1:Nds w y1 (flat d)) (hb:base≤w.heap.size) (hl:sz a+sz d≤900) :
    Calls Tryz.prog 98 #[.agg #[.int .i64 7,.string ⟨#[]⟩,.int .i64 0],.slice (some ⟨bk,0,none⟩) 2 ck] w (OutB base (sPar a d) w):=by
  have HL:=Lib.hid hl;have HB:=Lib.hid hb;have hlt:bk<w.heap.size:=Ap.z0a q0;have CK:Hid (∀ w1,Below w.heap.size w w1→w1.cell? ⟨bk,0,none⟩=some y0∧w1.cell? ⟨bk,1,none⟩=some y1):=Lib.hid fun w1 hb=>by rw [hb.cell (p:=⟨bk,0,none⟩) hlt,hb.cell (p:=⟨bk,1,none⟩) hlt]; exact ⟨q0,q1⟩
  have A0:=Lib.hid (fun w1 (hb:Below w.heap.size w w1)=>h0.below hb);have A1:=Lib.hid (fun w1 (hb:Below w.heap.size w w1)=>h1.below hb);obtain ⟨_,a0,c0,rfl,-⟩:=id h0;obtain ⟨_,a1,c1,rfl,-⟩:=id h1;unfold OutB;clear q0 q1 h0 h1 hl hb
  go_enter Tryz.func98,Tryz.ntmps98
  go_wp2_with fail;have BW0:=z0f w (.cells #[.int .i64 7,.string ⟨#[]⟩,.int .i64 0] 36);have BC:=z0p w 7 0 ⟨#[]⟩ 36;generalize w.alloc (.cells #[.int .i64 7,.string ⟨#[]⟩,.int .i64 0] 36)=W at BW0 BC ⊢;have BW:=Lib.hid BW0;obtain ⟨x0,x1,x2⟩:=BC W (Below.refl _ _);obtain ⟨z0,z1⟩:=CK.out W BW0;have BD:=Lib.hid (BW.out.drew);clear BW0 BC
  go_still_tail 7,(by kernel_rfl)
  change wpList _ _ _ _ _ W.drew;go_wp2_with fail;refine (y9f base a d _ _ _ (A0.out _ BD.out).nds (A1.out _ BD.out) (Nat.le_trans HB.out BD.out.size) HL.out).mono ?_;rintro e w1 ⟨y,rfl,hn,hb⟩;have N1:=Lib.hid hn;have D1:=Lib.hid (BD.out.trans (hb.mono BD.out.size));clear hn hb;go_wp2_with fail;go_ret;exact ⟨_,rfl,N1.out,D1.out⟩
theorem y8z (base:Nat) (a d:Tm) (bk ck:Nat) (y0 y1:Value) (w:World) (q0:w.cell? ⟨bk,0,none⟩=some y0) (q1:w.cell? ⟨bk,1,none⟩=some y1) (h0:NdO base w y0 a) (h1:Nds w y1 (flat d)) (hb:base≤w.heap.size) (hl:sz a+sz d≤900) :
    Calls Tryz.prog 98 #[.agg #[.int .i64 12,.string ⟨#[]⟩,.int .i64 0],.slice (some ⟨bk,0,none⟩) 2 ck] w (OutB base (sGoing a d) w):=by
  have HL:=Lib.hid hl;have HB:=Lib.hid hb;have hlt:bk<w.heap.size:=Ap.z0a q0;have CK:Hid (∀ w1,Below w.heap.size w w1→w1.cell? ⟨bk,0,none⟩=some y0∧w1.cell? ⟨bk,1,none⟩=some y1):=Lib.hid fun w1 hb=>by rw [hb.cell (p:=⟨bk,0,none⟩) hlt,hb.cell (p:=⟨bk,1,none⟩) hlt]; exact ⟨q0,q1⟩
  have A0:=Lib.hid (fun w1 (hb:Below w.heap.size w w1)=>h0.below hb);have A1:=Lib.hid (fun w1 (hb:Below w.heap.size w w1)=>h1.below hb);obtain ⟨_,a0,c0,rfl,-⟩:=id h0;obtain ⟨_,a1,c1,rfl,-⟩:=id h1;unfold OutB;clear q0 q1 h0 h1 hl hb
  go_enter Tryz.func98,Tryz.ntmps98
  go_wp2_with fail;have BW0:=z0f w (.cells #[.int .i64 12,.string ⟨#[]⟩,.int .i64 0] 36);have BC:=z0p w 12 0 ⟨#[]⟩ 36;generalize w.alloc (.cells #[.int .i64 12,.string ⟨#[]⟩,.int .i64 0] 36)=W at BW0 BC ⊢;have BW:=Lib.hid BW0;obtain ⟨x0,x1,x2⟩:=BC W (Below.refl _ _);obtain ⟨z0,z1⟩:=CK.out W BW0;have BD:=Lib.hid (BW.out.drew);clear BW0 BC
  go_still_tail 7,(by kernel_rfl)
  change wpList _ _ _ _ _ W.drew;go_wp2_with fail;refine (x3u base a d _ _ _ (A0.out _ BD.out).nds (A1.out _ BD.out) (Nat.le_trans HB.out BD.out.size) HL.out).mono ?_;rintro e w1 ⟨y,rfl,hn,hb⟩;have N1:=Lib.hid hn;have D1:=Lib.hid (BD.out.trans (hb.mono BD.out.size));clear hn hb;go_wp2_with fail;go_ret;exact ⟨_,rfl,N1.out,D1.out⟩
theorem y8y (base:Nat) (a d:Tm) (bk ck:Nat) (y0 y1:Value) (w:World) (q0:w.cell? ⟨bk,0,none⟩=some y0) (q1:w.cell? ⟨bk,1,none⟩=some y1) (h0:NdO base w y0 a) (h1:Nds w y1 (flat d)) (hb:base≤w.heap.size) (hl:sz a+sz d≤900) :
    Calls Tryz.prog 98 #[.agg #[.int .i64 13,.string ⟨#[]⟩,.int .i64 0],.slice (some ⟨bk,0,none⟩) 2 ck] w (OutB base (stk a d) w):=by
  have HL:=Lib.hid hl;have HB:=Lib.hid hb;have hlt:bk<w.heap.size:=Ap.z0a q0;have CK:Hid (∀ w1,Below w.heap.size w w1→w1.cell? ⟨bk,0,none⟩=some y0∧w1.cell? ⟨bk,1,none⟩=some y1):=Lib.hid fun w1 hb=>by rw [hb.cell (p:=⟨bk,0,none⟩) hlt,hb.cell (p:=⟨bk,1,none⟩) hlt]; exact ⟨q0,q1⟩
  have A0:=Lib.hid (fun w1 (hb:Below w.heap.size w w1)=>h0.below hb);have A1:=Lib.hid (fun w1 (hb:Below w.heap.size w w1)=>h1.below hb);obtain ⟨_,a0,c0,rfl,-⟩:=id h0;obtain ⟨_,a1,c1,rfl,-⟩:=id h1;unfold OutB;clear q0 q1 h0 h1 hl hb
  go_enter Tryz.func98,Tryz.ntmps98
  go_wp2_with fail;have BW0:=z0f w (.cells #[.int .i64 13,.string ⟨#[]⟩,.int .i64 0] 36);have BC:=z0p w 13 0 ⟨#[]⟩ 36;generalize w.alloc (.cells #[.int .i64 13,.string ⟨#[]⟩,.int .i64 0] 36)=W at BW0 BC ⊢;have BW:=Lib.hid BW0;obtain ⟨x0,x1,x2⟩:=BC W (Below.refl _ _);obtain ⟨z0,z1⟩:=CK.out W BW0;have BD:=Lib.hid (BW.out.drew);clear BW0 BC
  go_still_tail 6,(by kernel_rfl)
  change wpList _ _ _ _ _ W.drew;go_wp2_with fail;refine (z7l base a d _ _ _ (A0.out _ BD.out).nds (A1.out _ BD.out) (Nat.le_trans HB.out BD.out.size) HL.out).mono ?_;rintro e w1 ⟨y,rfl,hn,hb⟩;have N1:=Lib.hid hn;have D1:=Lib.hid (BD.out.trans (hb.mono BD.out.size));clear hn hb;go_wp2_with fail;go_ret;exact ⟨_,rfl,N1.out,D1.out⟩
theorem y9a (base:Nat) (a:Tm) (bk ck:Nat) (y0:Value) (w:World) (q0:w.cell? ⟨bk,0,none⟩=some y0) (h0:Nds w y0 (flat a)) (PB:Hid (∀ s c,a=.fin s c→PS c)) (hb:base≤w.heap.size) (hl:sz a≤900) :
    Calls Tryz.prog 98 #[.agg #[.int .i64 9,.string ⟨#[]⟩,.int .i64 0],.slice (some ⟨bk,0,none⟩) 1 ck] w (OutB base (sBlock S a) w):=by
  have HL:=Lib.hid hl;have HB:=Lib.hid hb;have hlt:bk<w.heap.size:=Ap.z0a q0;have CK:Hid (∀ w1,Below w.heap.size w w1→w1.cell? ⟨bk,0,none⟩=some y0∧True):=Lib.hid fun w1 hb=>by rw [hb.cell (p:=⟨bk,0,none⟩) hlt]; exact ⟨q0,trivial⟩
  have A0:=Lib.hid (fun w1 (hb:Below w.heap.size w w1)=>h0.below hb);obtain ⟨_,a0,c0,rfl,-⟩:=id h0;unfold OutB;clear q0 h0 hl hb
  go_enter Tryz.func98,Tryz.ntmps98
  go_wp2_with fail;have BW0:=z0f w (.cells #[.int .i64 9,.string ⟨#[]⟩,.int .i64 0] 36);have BC:=z0p w 9 0 ⟨#[]⟩ 36;generalize w.alloc (.cells #[.int .i64 9,.string ⟨#[]⟩,.int .i64 0] 36)=W at BW0 BC ⊢;have BW:=Lib.hid BW0;obtain ⟨x0,x1,x2⟩:=BC W (Below.refl _ _);obtain ⟨z0,-⟩:=CK.out W BW0;have BD:=Lib.hid (BW.out.drew);clear BW0 BC
  go_still_tail 4,(by kernel_rfl)
  change wpList _ _ _ _ _ W.drew;go_wp2_with fail;refine (y5u base a _ _ (A0.out _ BD.out) PB.out (Nat.le_trans HB.out BD.out.size) HL.out).mono ?_;rintro e w1 ⟨y,rfl,hn,hb⟩;have N1:=Lib.hid hn;have D1:=Lib.hid (BD.out.trans (hb.mono BD.out.size));clear hn hb;go_wp2_with fail;go_ret;exact ⟨_,rfl,N1.out,D1.out⟩
theorem x4e (base:Nat) (v:Value) (w:World) (hv:Rws w v []) (hb:base≤w.heap.size) :
    Calls Tryz.prog 98 #[.agg #[.int .i64 2,.string ⟨#[]⟩,.int .i64 0],v] w (OutB base (.over 1) w):=by
  have HB:=Lib.hid hb;obtain ⟨cs,hRd,-⟩:=hv;obtain ⟨_,ak,ck,rfl,-⟩:=hRd;unfold OutB;clear hb
  go_enter Tryz.func98,Tryz.ntmps98
  go_wp2_with fail;have B0:=Lib.hid (z0f w (.cells #[.int .i64 2,.string ⟨#[]⟩,.int .i64 0] 36));refine (z1i 1 _).mono ?_;rintro e w1 ⟨rfl,hb1⟩;have D1:=Lib.hid (B0.out.trans (hb1.mono B0.out.size));clear hb1;go_wp2_with fail;refine (mkP0 base 11 1 (.over 1) rfl _ (Nat.le_trans HB.out D1.out.size)).mono ?_;rintro e w2 ⟨y,rfl,hn,hb⟩;have N2:=Lib.hid hn;have D2:=Lib.hid (D1.out.trans (hb.mono D1.out.size));clear hn hb;go_wp2_with fail;go_ret;exact ⟨_,rfl,N2.out,D2.out⟩
theorem y8x (base:Nat) (v:Value) (w:World) (hv:Rws w v []) (hb:base≤w.heap.size) :
    Calls Tryz.prog 98 #[.agg #[.int .i64 3,.string ⟨#[]⟩,.int .i64 0],v] w (OutB base (.over 2) w):=by
  have HB:=Lib.hid hb;obtain ⟨cs,hRd,-⟩:=hv;obtain ⟨_,ak,ck,rfl,-⟩:=hRd;unfold OutB;clear hb
  go_enter Tryz.func98,Tryz.ntmps98
  go_wp2_with fail;have B0:=Lib.hid (z0f w (.cells #[.int .i64 3,.string ⟨#[]⟩,.int .i64 0] 36));refine (z1i 2 _).mono ?_;rintro e w1 ⟨rfl,hb1⟩;have D1:=Lib.hid (B0.out.trans (hb1.mono B0.out.size));clear hb1;go_wp2_with fail;refine (mkP0 base 11 2 (.over 2) rfl _ (Nat.le_trans HB.out D1.out.size)).mono ?_;rintro e w2 ⟨y,rfl,hn,hb⟩;have N2:=Lib.hid hn;have D2:=Lib.hid (D1.out.trans (hb.mono D1.out.size));clear hn hb;go_wp2_with fail;go_ret;exact ⟨_,rfl,N2.out,D2.out⟩
theorem mkP_any (base:Nat) (k s:Int) (nm:ByteArray) (ls:List (List Nd)) (t:Tm) (h:flat t=⟨k,nm,s⟩::ls.flatten) (v:Value) (w:World) (hv:Rws w v ls) (hl:ls.length≤2) (hs:sz t≤1000) (hb:base≤w.heap.size) :
    Calls Tryz.prog 83 #[.agg #[.int .i64 k,.string nm,.int .i64 s],v] w (OutB base t w):=mkP base ⟨k,nm,s⟩ ls t h v w hv hl hs hb
theorem z3t (base:Nat) (k s:Int) (nm:ByteArray) (ls:List (List Nd)) (t:Tm) (h:flat t=⟨k,nm,s⟩::ls.flatten) (hk:k≠2∧k≠3∧k≠5∧k≠7∧k≠8∧k≠9∧k≠12∧k≠13) (v:Value) (w:World) (hv:Rws w v ls) (hl:ls.length≤2) (hs:sz t≤1000) (hb:base≤w.heap.size) :
    Calls Tryz.prog 98 #[.agg #[.int .i64 k,.string nm,.int .i64 s],v] w (OutB base t w):=by
  have HB:=Lib.hid hb;have HT:=Lib.hid (fun w1 (hb:Below w.heap.size w w1)=>hv.below hb);have HM:=Lib.hid (fun v w1 (h1:Rws w1 v ls) (h2:base≤w1.heap.size)=>mkP_any base k s nm ls t h v w1 h1 hl hs h2);obtain ⟨cs,hRd,-⟩:=hv;obtain ⟨_,ak,ck,rfl,-⟩:=hRd;obtain ⟨q2,q3,q5,q7,q8,q9,q12,q13⟩:=hk;have f2:(k==2)=false:=by rw [beq_eq_false_iff_ne]; exact q2
  have f3:(k==3)=false:=by rw [beq_eq_false_iff_ne]; exact q3
  have f5:(k==5)=false:=by rw [beq_eq_false_iff_ne]; exact q5
  have f7:(k==7)=false:=by rw [beq_eq_false_iff_ne]; exact q7
  have f8:(k==8)=false:=by rw [beq_eq_false_iff_ne]; exact q8
  have f9:(k==9)=false:=by rw [beq_eq_false_iff_ne]; exact q9
  have f12:(k==12)=false:=by rw [beq_eq_false_iff_ne]; exact q12
  have f13:(k==13)=false:=by rw [beq_eq_false_iff_ne]; exact q13
  unfold OutB;clear hb h hl hs q2 q3 q5 q7 q8 q9 q12 q13
  go_enter Tryz.func98,Tryz.ntmps98
  go_wp2_with fail;have B0:=Lib.hid (z0f w (.cells #[.int .i64 k,.string nm,.int .i64 s] 36));refine (HM.out _ _ (HT.out _ B0.out) (Nat.le_trans HB.out B0.out.size)).mono ?_;rintro e w2 ⟨y,rfl,hn,hb⟩;have N2:=Lib.hid hn;have D2:=Lib.hid (B0.out.trans (hb.mono B0.out.size));clear hn hb;go_wp2_with fail;go_ret;exact ⟨_,rfl,N2.out,D2.out⟩
end Se
namespace Se
open Go Rw So Tr Mn
theorem x1h (t:Tm):0<(flat t).length:=by rw [flat_len]; exact z0l t
theorem y0o (t:Tm):Mt (flat t)=Mn.stepT Mt Mp (flat t):=(M_eq (x1h t)).1
theorem y8a (t:Tm):Mp (flat t)=Mn.stepP Mt Mp (flat t):=(M_eq (x1h t)).2
theorem y3g:Mt (flat .skip)=[tick]:=by rw [y0o]; rfl
theorem mt_throw:Mt (flat .throw)=[bang]:=by rw [y0o]; rfl
theorem z1j (s:Int):Mt (flat (.over s))=[⟨[],s⟩]:=by rw [y0o]; rfl
theorem x0o (a b:Tm):Mt (flat (.seq a b))=norm (two 5 (Mt (flat a)) (Mt (flat b))):=by rw [y0o,z5o (l:=flat (.seq a b)) (.inl rfl),y1n,y1k]; rfl
theorem y5l (a b:Tm):Mt (flat (.par a b))=norm (two 7 (Mt (flat a)) (Mt (flat b))):=by rw [y0o,z5o (l:=flat (.par a b)) (.inr (.inr (.inl rfl))),y1o,y1l]; rfl
theorem y7z (a b:Tm):Mt (flat (.hand a b))=norm (two 8 (Mt (flat a)) (Mt (flat b))):=by rw [y0o,z5o (l:=flat (.hand a b)) (.inr (.inr (.inr rfl))),y8k,y8i]; rfl
theorem z7z (a:Tm):Mt (flat (.block a))=norm (blk (Mp (flat a))):=by rw [y0o,y2b (l:=flat (.block a)) rfl,y3n]
theorem x7x (a b:Tm):Mp (flat (.seq a b))=pnorm (seq (Mp (flat a)) (Mp (flat b))):=by rw [y8a,z7a (l:=flat (.seq a b)) (.inl rfl),y1n,y1k]; rfl
theorem x0p (a b:Tm):Mp (flat (.par a b))=pnorm (par (Mp (flat a)) (Mp (flat b))):=by rw [y8a,z7a (l:=flat (.par a b)) (.inr (.inr rfl)),y1o,y1l]; rfl
theorem z8a (a b:Tm):Mp (flat (.going a b))=pnorm (going (Mt (flat a)) (Mt (flat b))):=by rw [y8a,y2e (l:=flat (.going a b)) rfl,x0y,x0w]
theorem y3h (a b:Tm):Mp (flat (.stack a b))=pnorm (stack (Mp (flat a)) (Mt (flat b))):=by rw [y8a,y2d (l:=flat (.stack a b)) rfl,x0x,x0v]
theorem z4i (s:Int) (c:Tm):Mp (flat (.fin s c))=pnorm (fin s (Mt (flat c))):=by rw [y8a,y2c (l:=flat (.fin s c)) rfl,k0_fin]; rfl
theorem z3b {s:Int} {C:List Tr} {z:Pr}:z∈fin s C↔∃ c∈C,z=⟨⟨[],s⟩,c⟩:=by
  unfold fin;rw [List.mem_map];exact ⟨fun ⟨c,h,e⟩=>⟨c,h,e.symm⟩,fun ⟨c,h,e⟩=>⟨c,h,e.symm⟩⟩
theorem y8b {X:List Pr} {C:List Tr} {z:Pr}:z∈stack X C↔∃ x∈X,∃ c∈C,z=⟨x.p,thn x.q c⟩:=by
  unfold stack;rw [List.mem_flatMap]
  constructor
  · rintro ⟨x,hx,h⟩;obtain ⟨c,hc,e⟩:=List.mem_map.1 h;exact ⟨x,hx,c,hc,e.symm⟩
  · rintro ⟨x,hx,c,hc,e⟩;exact ⟨x,hx,List.mem_map.2 ⟨c,hc,e.symm⟩⟩
theorem y9v (x d:Tm):Mp (flat (stk x d))=pnorm (stack (Mp (flat x)) (Mt (flat d))):=by
  cases x with
  | fin s c=>
    show Mp (flat (.fin s (.seq c d)))=_
    rw [z4i,z4i,x0o];refine z2y fun z=>?_
    rw [z3b,y8b]
    constructor
    · rintro ⟨q,hq,rfl⟩;obtain ⟨c',hc',d',hd',rfl⟩:=mem5.1 ((z0s _ _).1 hq);exact ⟨⟨⟨[],s⟩,c'⟩,(z0o _ _).2 (z3b.2 ⟨c',hc',rfl⟩),d',hd',rfl⟩
    · rintro ⟨y,hy,d',hd',rfl⟩;obtain ⟨c',hc',rfl⟩:=z3b.1 ((z0o _ _).1 hy);exact ⟨thn c' d',(z0s _ _).2 (mem5.2 ⟨c',hc',d',hd',rfl⟩),rfl⟩
  | _=>exact y3h _ _
theorem thn_no {s:Int} (h:s≠1) (q:Tr):thn ⟨[],s⟩ q=⟨[],s⟩:=by unfold thn; rw [if_neg h]
theorem hnd_no {s:Int} (h:s≠2) (q:Tr):hnd ⟨[],s⟩ q=⟨[],s⟩:=by unfold hnd; rw [if_neg h]
theorem seq_no {s:Int} (h:s≠1) {B:List Tr} (hB:B≠[]):norm (two 5 [⟨[],s⟩] B)=[⟨[],s⟩]:=z4q (y4l _) fun t=>by
  rw [mem5,List.mem_singleton]
  constructor
  · rintro rfl;obtain ⟨q,hq⟩:=List.exists_mem_of_ne_nil B hB;exact ⟨_,by simp,q,hq,(thn_no h q).symm⟩
  · rintro ⟨p,hp,q,_,rfl⟩;rw [List.mem_singleton] at hp;rw [hp,thn_no h]
theorem hand_no {s:Int} (h:s≠2) {B:List Tr} (hB:B≠[]):norm (two 8 [⟨[],s⟩] B)=[⟨[],s⟩]:=z4q (y4l _) fun t=>by
  rw [mem8,List.mem_singleton]
  constructor
  · rintro rfl;obtain ⟨q,hq⟩:=List.exists_mem_of_ne_nil B hB;exact ⟨_,by simp,q,hq,(hnd_no h q).symm⟩
  · rintro ⟨p,hp,q,_,rfl⟩;rw [List.mem_singleton] at hp;rw [hp,hnd_no h]
theorem y2w (s t:Int):pr ⟨[],s⟩ ⟨[],t⟩=[⟨[],Sg.both s t⟩]:=rfl
theorem x6x (s t:Int):norm (two 7 [⟨[],s⟩] [⟨[],t⟩])=[⟨[],Sg.both s t⟩]:=z4q (y4l _) fun u=>by
  rw [mem7,List.mem_singleton]
  constructor
  · rintro rfl;exact ⟨⟨[],s⟩,by simp,⟨[],t⟩,by simp,by rw [y2w]; simp⟩
  · rintro ⟨p,hp,q,hq,h⟩;rw [List.mem_singleton] at hp hq;rw [hp,hq,y2w,List.mem_singleton] at h;exact h
theorem par_fin' (s t:Int) (C D:List Tr):pnorm (par (pnorm (fin s C)) (pnorm (fin t D)))=pnorm (fin (Sg.both s t) (norm (two 7 C D))):=by
  refine z2y fun z=>?_
  unfold par;simp only [List.mem_flatMap,z6i,z0o,z3b]
  constructor
  · rintro ⟨x,⟨c,hc,rfl⟩,y,⟨d,hd,rfl⟩,h1,h2⟩;rw [y2w,List.mem_singleton] at h1;refine ⟨z.q,(z0s _ _).2 (mem7.2 ⟨c,hc,d,hd,h2⟩),?_⟩
    cases z
    simp only at h1;rw [h1]
  · rintro ⟨q,hq,rfl⟩;obtain ⟨c,hc,d,hd,h⟩:=mem7.1 ((z0s _ _).1 hq);exact ⟨_,⟨c,hc,rfl⟩,_,⟨d,hd,rfl⟩,by rw [y2w]; simp,h⟩
theorem seq_fin1 (C:List Tr) (Y:List Pr):pnorm (seq (pnorm (fin 1 C)) Y)=pnorm (stack Y C):=by
  refine z2y fun z=>?_
  unfold seq;simp only [List.mem_flatMap,z0o,z3b,y8b]
  constructor
  · rintro ⟨x,⟨c,hc,rfl⟩,h⟩;unfold seq1 at h;rw [if_pos rfl,List.mem_map] at h;obtain ⟨y,hy,rfl⟩:=h;exact ⟨y,hy,c,hc,by rw [show thn ⟨[],1⟩ y.p=y.p from z7s _]⟩
  · rintro ⟨y,hy,c,hc,rfl⟩;refine ⟨_,⟨c,hc,rfl⟩,?_⟩;unfold seq1;rw [if_pos rfl,List.mem_map];exact ⟨y,hy,by rw [show thn ⟨[],1⟩ y.p=y.p from z7s _]⟩
theorem seq_fin {s:Int} (h:s≠1) (C:List Tr) (Y:List Pr):pnorm (seq (pnorm (fin s C)) Y)=pnorm (fin s C):=by
  refine z2y fun z=>?_
  unfold seq;simp only [List.mem_flatMap,z0o,z3b]
  constructor
  · rintro ⟨x,⟨c,hc,rfl⟩,h1⟩;unfold seq1 at h1;rw [if_neg h,List.mem_singleton] at h1;exact ⟨c,hc,h1⟩
  · rintro ⟨c,hc,rfl⟩;refine ⟨_,⟨c,hc,rfl⟩,?_⟩;unfold seq1;rw [if_neg h,List.mem_singleton]
theorem blk_fin1 {C:List Tr} (h:C≠[]):norm (blk (pnorm (fin 1 C)))=[⟨[],1⟩]:=z4q (y4l _) fun t=>by
  rw [y8d,List.mem_singleton]
  constructor
  · rintro rfl;obtain ⟨c,hc⟩:=List.exists_mem_of_ne_nil C h;refine ⟨⟨⟨[],1⟩,c⟩,(z0o _ _).2 (z3b.2 ⟨c,hc,rfl⟩),?_⟩;unfold blk1;rw [if_pos rfl];simp
  · rintro ⟨x,hx,h1⟩;obtain ⟨c,_,rfl⟩:=z3b.1 ((z0o _ _).1 hx);unfold blk1 at h1;rw [if_pos rfl,List.mem_singleton] at h1;exact h1
theorem blk_fin2 {C:List Tr} (h:Up C):norm (blk (pnorm (fin 2 C)))=C:=z4q h fun t=>by
  rw [y8d]
  constructor
  · intro ht;refine ⟨⟨⟨[],2⟩,t⟩,(z0o _ _).2 (z3b.2 ⟨t,ht,rfl⟩),?_⟩;unfold blk1;rw [if_neg (by simp),if_pos rfl,List.mem_singleton]
    rfl
  · rintro ⟨x,hx,h1⟩;obtain ⟨c,hc,rfl⟩:=z3b.1 ((z0o _ _).1 hx);unfold blk1 at h1;rw [if_neg (by simp),if_pos rfl,List.mem_singleton] at h1;rw [h1];exact hc
theorem x3s (B:List Tr):going [⟨[],1⟩] B=fin 1 B:=by
  unfold going fin;simp [going1]
theorem going_no {s:Int} (h:s≠1) (B:List Tr):going [⟨[],s⟩] B=fin s [tick]:=by
  unfold going fin;simp [going1,h]
theorem up_mt {t:Tm} (h:is t 3=true):Up (Mt (flat t)):=(gt (z0k t) (by rw [z2p t 3 (by omega)]; exact h)).up
def ac (t:Tm):Nat:=ct (fun x=>decide (x.k=1)&&all x.n) t
theorem acs_ac (t:Tm):acs (flat t)=ac t:=rfl
theorem plainA:Plain (fun x=>decide (x.k=1)&&all x.n):=⟨fun _=>rfl,fun _=>rfl,rfl,rfl,rfl,rfl,rfl⟩
theorem S_ac (t:Tm):ac (S t)≤ac t:=S_ct plainA t
theorem z4j {t a b:Tm} {k:Int} (e:flat t=nOf k::(flat a++flat b)) (hk:k≠1):ac t=ac a+ac b:=by
  unfold ac;rw [y0e e];simp [nOf,hk]
theorem z6z (a:Tm):ac (.block a)=ac a:=by unfold ac; rw [z4b]; rfl
theorem ac_fin (s:Int) (c:Tm):ac (.fin s c)=ac c:=by unfold ac; rw [z7q]; rfl
theorem ne_mt {t:Tm} (h:is t 1=true) (ha:ac t≤19):Mt (flat t)≠[]:=(live1 (z0k t) ha (by rw [z2p t 1 (by omega)]; exact h)).ne
theorem S_mean:∀ t:Tm,ac t≤19→(is t 3=true→Mt (flat (S t))=Mt (flat t))∧(is t 4=true→Mp (flat (S t))=Mp (flat t)):=by
  apply x4w
  intro t ih ha
  cases t with
  | act s=>exact ⟨fun _=>rfl,fun _=>rfl⟩
  | skip=>exact ⟨fun _=>by rw [x2f,z1j,y3g]; rfl,fun h=>by simp [is] at h⟩
  | throw=>exact ⟨fun _=>by rw [y4h,z1j,mt_throw]; rfl,fun h=>by simp [is] at h⟩
  | yield=>exact ⟨fun _=>rfl,fun _=>rfl⟩
  | over s=>exact ⟨fun _=>rfl,fun _=>rfl⟩
  | fin s c=>exact ⟨fun _=>rfl,fun _=>rfl⟩
  | alt a b=>exact ⟨fun _=>rfl,fun _=>rfl⟩
  | pair a b=>exact ⟨fun _=>rfl,fun _=>rfl⟩
  | seq a b=>
    rw [z4j (k:=5) (a:=a) (b:=b) rfl (by decide)] at ha;have ia:=ih a (by simp [sz]; omega) (by omega);have ib:=ih b (by simp [sz]; omega) (by omega);have ks:=S_is a;rw [y9o];generalize S a=x at ia ks ⊢
    constructor
    · intro h;simp [is] at h;have hb3:=(is13 b).1 h.2;rw [x0o,← ia.1 h.1];have k3:=ks.1 h.1
      cases x with
      | over s=>
        rw [z1j]
        by_cases hs:s=1
        · subst hs
          show Mt (flat (S b))=_
          rw [ib.1 hb3];exact (unit_l (up_mt hb3)).symm
        · have e:sSeq S (.over s) b=.over s:=by simp [sSeq,hs]
          rw [e,z1j,seq_no hs (ne_mt h.2 (by omega))]
      | fin s c=>simp [is] at k3
      | _=>exact x0o _ _
    · intro h;simp [is] at h;have hb4:=(is13 b).2 h.2;rw [x7x,← ia.2 h.1];have k4:=ks.2 h.1
      cases x with
      | over s=>simp [is] at k4
      | fin s c=>
        rw [z4i]
        by_cases hs:s=1
        · subst hs
          show Mp (flat (stk (S b) c))=_
          rw [y9v,ib.2 hb4,seq_fin1]
        · have e:sSeq S (.fin s c) b=.fin s c:=by simp [sSeq,hs]
          rw [e,z4i,seq_fin hs]
      | _=>exact x7x _ _
  | hand a b=>
    rw [z4j (k:=8) (a:=a) (b:=b) rfl (by decide)] at ha;have ia:=ih a (by simp [sz]; omega) (by omega);have ib:=ih b (by simp [sz]; omega) (by omega);have ks:=S_is a;rw [y0m];generalize S a=x at ia ks ⊢
    constructor
    · intro h;simp [is] at h;have hb3:=(is13 b).1 h.2;rw [y7z,← ia.1 h.1];have k3:=ks.1 h.1
      cases x with
      | over s=>
        rw [z1j]
        by_cases hs:s=2
        · subst hs
          show Mt (flat (S b))=_
          rw [ib.1 hb3];exact (x5i (up_mt hb3)).symm
        · have e:sHand S (.over s) b=.over s:=by simp [sHand,hs]
          rw [e,z1j,hand_no hs (ne_mt h.2 (by omega))]
      | _=>exact y7z _ _
    · intro h;simp [is] at h
  | par a b=>
    rw [z4j (k:=7) (a:=a) (b:=b) rfl (by decide)] at ha;have ia:=ih a (by simp [sz]; omega) (by omega);have ib:=ih b (by simp [sz]; omega) (by omega);have ks:=S_is a;rw [y9p];generalize S a=x at ia ks ⊢;generalize S b=y at ib ⊢
    constructor
    · intro h;simp [is] at h;have k3:=ks.1 h.1;rw [y5l,← ia.1 h.1,← ib.1 h.2]
      cases x with
      | over s=>
        cases y with
        | over t=>
          show Mt (flat (.over (Sg.both s t)))=_
          rw [z1j,z1j,z1j,x6x]
        | _=>exact y5l _ _
      | fin s c=>simp [is] at k3
      | _=>exact y5l _ _
    · intro h;simp [is] at h;have k4:=ks.2 h.1;rw [x0p,← ia.2 h.1,← ib.2 h.2]
      cases x with
      | fin s c=>
        cases y with
        | fin t d=>
          show Mp (flat (.fin (Sg.both s t) (.par c d)))=_
          rw [z4i,z4i,z4i,y5l,par_fin']
        | _=>exact x0p _ _
      | over s=>simp [is] at k4
      | _=>exact x0p _ _
  | block a=>
    rw [z6z] at ha;have ia:=ih a (by simp [sz]) ha;have ks:=S_is a;have hz:=S_sz a;have hc:=S_ac a;rw [z5x];generalize S a=x at ia ks hz hc ⊢
    constructor
    · intro h;simp [is] at h;rw [z7z,← ia.2 h];have k4:=ks.2 h
      cases x with
      | fin s c=>
        simp [is] at k4;simp only [sz] at hz;rw [ac_fin] at hc;rw [z4i]
        by_cases h1:s=1
        · subst h1
          show Mt (flat (.over 1))=_
          rw [z1j,blk_fin1 (ne_mt k4 (by omega))]
        · by_cases h2:s=2
          · subst h2
            show Mt (flat (S c))=_
            have k3:=(is13 c).1 k4;rw [(ih c (by simp [sz]; omega) (by omega)).1 k3,blk_fin2 (up_mt k3)]
          · have e:sBlock S (.fin s c)=.block (.fin s c):=by simp [sBlock,h1,h2]
            rw [e,z7z,z4i]
      | _=>exact z7z _
    · intro h;simp [is] at h
  | going a b=>
    rw [z4j (k:=12) (a:=a) (b:=b) rfl (by decide)] at ha;have ia:=ih a (by simp [sz]; omega) (by omega);rw [z5w];generalize S a=x at ia ⊢
    constructor
    · intro h;simp [is] at h
    · intro h;simp [is] at h;rw [z8a,← ia.1 h.1]
      cases x with
      | over s=>
        rw [z1j]
        by_cases hs:s=1
        · subst hs
          show Mp (flat (.fin 1 b))=_
          rw [z4i,x3s]
        · have e:sGoing (.over s) b=.fin s .skip:=by simp [sGoing,hs]
          rw [e,z4i,y3g,going_no hs]
      | _=>exact z8a _ _
  | stack a b=>
    rw [z4j (k:=13) (a:=a) (b:=b) rfl (by decide)] at ha;have ia:=ih a (by simp [sz]; omega) (by omega);rw [z5v,y9v]
    constructor
    · intro h;simp [is] at h
    · intro h;simp [is] at h;rw [y3h,ia.2 h.1]
end Se
namespace Do
open Go Rw So Se Tr Mn
def wt:Tm→Nat→List Nat
  | .act _,i=>[i]
  | .yield,i=>[i]
  | .alt _ _,i=>[i]
  | .pair _ _,i=>[i]
  | .seq a _,i=>wt a (i+1)
  | .hand a _,i=>wt a (i+1)
  | .going a _,i=>wt a (i+1)
  | .stack a _,i=>wt a (i+1)
  | .block a,i=>wt a (i+1)
  | .par a b,i=>wt a (i+1)++wt b (i+1+sz a)
  | _,_=>[]
def bangT:Tm→Bool
  | .over s=>s==2
  | .fin s _=>s==2
  | .seq a _=>bangT a
  | .going a _=>bangT a
  | .stack a _=>bangT a
  | .par a b=>bangT a||bangT b
  | _=>false
theorem z0q:∀ (t:Tm) (i:Nat),∀ k∈wt t i,i≤k∧k<i+sz t:=by
  intro t
  induction t with
  | par a b ia ib=>
    intro i k hk;simp only [wt,List.mem_append] at hk;simp only [sz]
    rcases hk with hk | hk
    · have:=ia _ _ hk; omega
    · have:=ib _ _ hk; omega
  | seq a b ia ib=>intro i k hk; have:=ia _ _ (by simpa [wt] using hk); simp only [sz]; omega
  | hand a b ia ib=>intro i k hk; have:=ia _ _ (by simpa [wt] using hk); simp only [sz]; omega
  | going a b ia ib=>intro i k hk; have:=ia _ _ (by simpa [wt] using hk); simp only [sz]; omega
  | stack a b ia ib=>intro i k hk; have:=ia _ _ (by simpa [wt] using hk); simp only [sz]; omega
  | block a ia=>intro i k hk; have:=ia _ _ (by simpa [wt] using hk); simp only [sz]; omega
  | skip=>intro i k hk; simp [wt] at hk
  | throw=>intro i k hk; simp [wt] at hk
  | over s=>intro i k hk; simp [wt] at hk
  | fin s c=>intro i k hk; simp [wt] at hk
  | _=>intro i k hk; simp only [wt,List.mem_singleton] at hk; simp only [sz]; omega
theorem st_mt {t:Tm} (h:is t 3=true) (hr:rg t=true):ST (Mt (flat t)):=(gt (z0k t) (by rw [z2p t 3 (by omega)]; exact h)).sg hr
theorem sp_mp {t:Tm} (h:is t 4=true) (hr:rg t=true):SP (Mp (flat t)):=(gp (z0k t) (by rw [z2p t 4 (by omega)]; exact h)).sg hr
end Do
end Go.Proofs.YtaapnkoooofalaaGreat
