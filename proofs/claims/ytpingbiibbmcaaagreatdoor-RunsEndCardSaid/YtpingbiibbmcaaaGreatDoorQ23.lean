/- Laws that the last text leans on. -/
import Derived.Test.YtpingbiibbmcaaaGreatDoorQ22

set_option maxRecDepth 20000
set_option maxHeartbeats 1000000
namespace Go.Proofs.YtpingbiibbmcaaaGreatDoor
namespace Se
open Go Go.RowKit Rw YtpingbiibbmcaaaGreatDoor.So
theorem v3o (base:Nat) (a d:Tm) (bk ck:Nat) (y0 y1:Value) (w:World) (q0:w.cell? ⟨bk,0,none⟩=some y0) (q1:w.cell? ⟨bk,1,none⟩=some y1) (h0:NdO base w y0 a) (h1:Nds w y1 (flat d)) (PB:Hid (PS d)) (hb:base≤w.heap.size) (hl:sz a+sz d≤900) :
    Calls Tryz.prog 157 #[.agg #[.int .i64 5,.string ⟨#[]⟩,.int .i64 0],.slice (some ⟨bk,0,none⟩) 2 ck] w (OutB base (sSeq S a d) w):=by
  have HL:=Lib.hid hl;have HB:=Lib.hid hb;have hlt:bk<w.heap.size:=Ap.z0a q0;have CK:Hid (∀ w1,Below w.heap.size w w1→w1.cell? ⟨bk,0,none⟩=some y0∧w1.cell? ⟨bk,1,none⟩=some y1):=Lib.hid fun w1 hb=>by rw [hb.cell (p:=⟨bk,0,none⟩) hlt,hb.cell (p:=⟨bk,1,none⟩) hlt]; exact ⟨q0,q1⟩
  have A0:=Lib.hid (fun w1 (hb:Below w.heap.size w w1)=>h0.below hb);have A1:=Lib.hid (fun w1 (hb:Below w.heap.size w w1)=>h1.below hb);obtain ⟨_,a0,c0,rfl,-⟩:=id h0;obtain ⟨_,a1,c1,rfl,-⟩:=id h1;unfold OutB;clear q0 q1 h0 h1 hl hb
  go_enter Tryz.func157,Tryz.ntmps157
  go_wp2_with fail;have BW0:=z0b w (.cells #[.int .i64 5,.string ⟨#[]⟩,.int .i64 0] 68);have BC:=z0m w 5 0 ⟨#[]⟩ 68;generalize w.alloc (.cells #[.int .i64 5,.string ⟨#[]⟩,.int .i64 0] 68)=W at BW0 BC ⊢;have BW:=Lib.hid BW0;obtain ⟨x0,x1,x2⟩:=BC W (Below.refl _ _);obtain ⟨z0,z1⟩:=CK.out W BW0;have BD:=Lib.hid (BW.out.drew);clear BW0 BC
  go_still_tail 8,(by kernel_rfl)
  change wpList _ _ _ _ _ W.drew;go_wp2_with fail;refine (x4b base a d _ _ _ (A0.out _ BD.out) (A1.out _ BD.out) PB.out (Nat.le_trans HB.out BD.out.size) HL.out).mono ?_;rintro e w1 ⟨y,rfl,hn,hb⟩;have N1:=Lib.hid hn;have D1:=Lib.hid (BD.out.trans (hb.mono BD.out.size));clear hn hb;go_wp2_with fail;go_ret;exact ⟨_,rfl,N1.out,D1.out⟩
theorem x6q (base:Nat) (a d:Tm) (bk ck:Nat) (y0 y1:Value) (w:World) (q0:w.cell? ⟨bk,0,none⟩=some y0) (q1:w.cell? ⟨bk,1,none⟩=some y1) (h0:NdO base w y0 a) (h1:Nds w y1 (flat d)) (PB:Hid (PS d)) (g14:Hid (kd a≠14)) (hb:base≤w.heap.size) (hl:sz a+sz d≤900) :
    Calls Tryz.prog 157 #[.agg #[.int .i64 8,.string ⟨#[]⟩,.int .i64 0],.slice (some ⟨bk,0,none⟩) 2 ck] w (OutB base (sHand S a d) w):=by
  have HL:=Lib.hid hl;have HB:=Lib.hid hb;have hlt:bk<w.heap.size:=Ap.z0a q0;have CK:Hid (∀ w1,Below w.heap.size w w1→w1.cell? ⟨bk,0,none⟩=some y0∧w1.cell? ⟨bk,1,none⟩=some y1):=Lib.hid fun w1 hb=>by rw [hb.cell (p:=⟨bk,0,none⟩) hlt,hb.cell (p:=⟨bk,1,none⟩) hlt]; exact ⟨q0,q1⟩
  have A0:=Lib.hid (fun w1 (hb:Below w.heap.size w w1)=>h0.below hb);have A1:=Lib.hid (fun w1 (hb:Below w.heap.size w w1)=>h1.below hb);obtain ⟨_,a0,c0,rfl,-⟩:=id h0;obtain ⟨_,a1,c1,rfl,-⟩:=id h1;unfold OutB;clear q0 q1 h0 h1 hl hb
  go_enter Tryz.func157,Tryz.ntmps157
  go_wp2_with fail;have BW0:=z0b w (.cells #[.int .i64 8,.string ⟨#[]⟩,.int .i64 0] 68);have BC:=z0m w 8 0 ⟨#[]⟩ 68;generalize w.alloc (.cells #[.int .i64 8,.string ⟨#[]⟩,.int .i64 0] 68)=W at BW0 BC ⊢;have BW:=Lib.hid BW0;obtain ⟨x0,x1,x2⟩:=BC W (Below.refl _ _);obtain ⟨z0,z1⟩:=CK.out W BW0;have BD:=Lib.hid (BW.out.drew);clear BW0 BC
  go_still_tail 8,(by kernel_rfl)
  change wpList _ _ _ _ _ W.drew;go_wp2_with fail;refine (x3z base a d _ _ _ (A0.out _ BD.out) (A1.out _ BD.out) PB.out g14.out (Nat.le_trans HB.out BD.out.size) HL.out).mono ?_;rintro e w1 ⟨y,rfl,hn,hb⟩;have N1:=Lib.hid hn;have D1:=Lib.hid (BD.out.trans (hb.mono BD.out.size));clear hn hb;go_wp2_with fail;go_ret;exact ⟨_,rfl,N1.out,D1.out⟩
theorem v3p (base:Nat) (a d:Tm) (bk ck:Nat) (y0 y1:Value) (w:World) (q0:w.cell? ⟨bk,0,none⟩=some y0) (q1:w.cell? ⟨bk,1,none⟩=some y1) (h0:NdO base w y0 a) (h1:Nds w y1 (flat d)) (hb:base≤w.heap.size) (hl:sz a+sz d≤900) :
    Calls Tryz.prog 157 #[.agg #[.int .i64 7,.string ⟨#[]⟩,.int .i64 0],.slice (some ⟨bk,0,none⟩) 2 ck] w (OutB base (sPar a d) w):=by
  have HL:=Lib.hid hl;have HB:=Lib.hid hb;have hlt:bk<w.heap.size:=Ap.z0a q0;have CK:Hid (∀ w1,Below w.heap.size w w1→w1.cell? ⟨bk,0,none⟩=some y0∧w1.cell? ⟨bk,1,none⟩=some y1):=Lib.hid fun w1 hb=>by rw [hb.cell (p:=⟨bk,0,none⟩) hlt,hb.cell (p:=⟨bk,1,none⟩) hlt]; exact ⟨q0,q1⟩
  have A0:=Lib.hid (fun w1 (hb:Below w.heap.size w w1)=>h0.below hb);have A1:=Lib.hid (fun w1 (hb:Below w.heap.size w w1)=>h1.below hb);obtain ⟨_,a0,c0,rfl,-⟩:=id h0;obtain ⟨_,a1,c1,rfl,-⟩:=id h1;unfold OutB;clear q0 q1 h0 h1 hl hb
  go_enter Tryz.func157,Tryz.ntmps157
  go_wp2_with fail;have BW0:=z0b w (.cells #[.int .i64 7,.string ⟨#[]⟩,.int .i64 0] 68);have BC:=z0m w 7 0 ⟨#[]⟩ 68;generalize w.alloc (.cells #[.int .i64 7,.string ⟨#[]⟩,.int .i64 0] 68)=W at BW0 BC ⊢;have BW:=Lib.hid BW0;obtain ⟨x0,x1,x2⟩:=BC W (Below.refl _ _);obtain ⟨z0,z1⟩:=CK.out W BW0;have BD:=Lib.hid (BW.out.drew);clear BW0 BC
  go_still_tail 7,(by kernel_rfl)
  change wpList _ _ _ _ _ W.drew;go_wp2_with fail;refine (x0z base a d _ _ _ (A0.out _ BD.out).nds (A1.out _ BD.out) (Nat.le_trans HB.out BD.out.size) HL.out).mono ?_;rintro e w1 ⟨y,rfl,hn,hb⟩;have N1:=Lib.hid hn;have D1:=Lib.hid (BD.out.trans (hb.mono BD.out.size));clear hn hb;go_wp2_with fail;go_ret;exact ⟨_,rfl,N1.out,D1.out⟩
theorem x0p (base:Nat) (a d:Tm) (bk ck:Nat) (y0 y1:Value) (w:World) (q0:w.cell? ⟨bk,0,none⟩=some y0) (q1:w.cell? ⟨bk,1,none⟩=some y1) (h0:NdO base w y0 a) (h1:Nds w y1 (flat d)) (hb:base≤w.heap.size) (hl:sz a+sz d≤900) :
    Calls Tryz.prog 157 #[.agg #[.int .i64 12,.string ⟨#[]⟩,.int .i64 0],.slice (some ⟨bk,0,none⟩) 2 ck] w (OutB base (sGoing a d) w):=by
  have HL:=Lib.hid hl;have HB:=Lib.hid hb;have hlt:bk<w.heap.size:=Ap.z0a q0;have CK:Hid (∀ w1,Below w.heap.size w w1→w1.cell? ⟨bk,0,none⟩=some y0∧w1.cell? ⟨bk,1,none⟩=some y1):=Lib.hid fun w1 hb=>by rw [hb.cell (p:=⟨bk,0,none⟩) hlt,hb.cell (p:=⟨bk,1,none⟩) hlt]; exact ⟨q0,q1⟩
  have A0:=Lib.hid (fun w1 (hb:Below w.heap.size w w1)=>h0.below hb);have A1:=Lib.hid (fun w1 (hb:Below w.heap.size w w1)=>h1.below hb);obtain ⟨_,a0,c0,rfl,-⟩:=id h0;obtain ⟨_,a1,c1,rfl,-⟩:=id h1;unfold OutB;clear q0 q1 h0 h1 hl hb
  go_enter Tryz.func157,Tryz.ntmps157
  go_wp2_with fail;have BW0:=z0b w (.cells #[.int .i64 12,.string ⟨#[]⟩,.int .i64 0] 68);have BC:=z0m w 12 0 ⟨#[]⟩ 68;generalize w.alloc (.cells #[.int .i64 12,.string ⟨#[]⟩,.int .i64 0] 68)=W at BW0 BC ⊢;have BW:=Lib.hid BW0;obtain ⟨x0,x1,x2⟩:=BC W (Below.refl _ _);obtain ⟨z0,z1⟩:=CK.out W BW0;have BD:=Lib.hid (BW.out.drew);clear BW0 BC
  go_still_tail 7,(by kernel_rfl)
  change wpList _ _ _ _ _ W.drew;go_wp2_with fail;refine (x6f base a d _ _ _ (A0.out _ BD.out).nds (A1.out _ BD.out) (Nat.le_trans HB.out BD.out.size) HL.out).mono ?_;rintro e w1 ⟨y,rfl,hn,hb⟩;have N1:=Lib.hid hn;have D1:=Lib.hid (BD.out.trans (hb.mono BD.out.size));clear hn hb;go_wp2_with fail;go_ret;exact ⟨_,rfl,N1.out,D1.out⟩
theorem x0o (base:Nat) (a d:Tm) (bk ck:Nat) (y0 y1:Value) (w:World) (q0:w.cell? ⟨bk,0,none⟩=some y0) (q1:w.cell? ⟨bk,1,none⟩=some y1) (h0:NdO base w y0 a) (h1:Nds w y1 (flat d)) (hb:base≤w.heap.size) (hl:sz a+sz d≤900) :
    Calls Tryz.prog 157 #[.agg #[.int .i64 13,.string ⟨#[]⟩,.int .i64 0],.slice (some ⟨bk,0,none⟩) 2 ck] w (OutB base (stk a d) w):=by
  have HL:=Lib.hid hl;have HB:=Lib.hid hb;have hlt:bk<w.heap.size:=Ap.z0a q0;have CK:Hid (∀ w1,Below w.heap.size w w1→w1.cell? ⟨bk,0,none⟩=some y0∧w1.cell? ⟨bk,1,none⟩=some y1):=Lib.hid fun w1 hb=>by rw [hb.cell (p:=⟨bk,0,none⟩) hlt,hb.cell (p:=⟨bk,1,none⟩) hlt]; exact ⟨q0,q1⟩
  have A0:=Lib.hid (fun w1 (hb:Below w.heap.size w w1)=>h0.below hb);have A1:=Lib.hid (fun w1 (hb:Below w.heap.size w w1)=>h1.below hb);obtain ⟨_,a0,c0,rfl,-⟩:=id h0;obtain ⟨_,a1,c1,rfl,-⟩:=id h1;unfold OutB;clear q0 q1 h0 h1 hl hb
  go_enter Tryz.func157,Tryz.ntmps157
  go_wp2_with fail;have BW0:=z0b w (.cells #[.int .i64 13,.string ⟨#[]⟩,.int .i64 0] 68);have BC:=z0m w 13 0 ⟨#[]⟩ 68;generalize w.alloc (.cells #[.int .i64 13,.string ⟨#[]⟩,.int .i64 0] 68)=W at BW0 BC ⊢;have BW:=Lib.hid BW0;obtain ⟨x0,x1,x2⟩:=BC W (Below.refl _ _);obtain ⟨z0,z1⟩:=CK.out W BW0;have BD:=Lib.hid (BW.out.drew);clear BW0 BC
  go_still_tail 6,(by kernel_rfl)
  change wpList _ _ _ _ _ W.drew;go_wp2_with fail;refine (z7n base a d _ _ _ (A0.out _ BD.out).nds (A1.out _ BD.out) (Nat.le_trans HB.out BD.out.size) HL.out).mono ?_;rintro e w1 ⟨y,rfl,hn,hb⟩;have N1:=Lib.hid hn;have D1:=Lib.hid (BD.out.trans (hb.mono BD.out.size));clear hn hb;go_wp2_with fail;go_ret;exact ⟨_,rfl,N1.out,D1.out⟩
theorem x0q (base:Nat) (a:Tm) (bk ck:Nat) (y0:Value) (w:World) (q0:w.cell? ⟨bk,0,none⟩=some y0) (h0:Nds w y0 (flat a)) (PB:Hid (∀ s c,a=.fin s c→PS c)) (hb:base≤w.heap.size) (hl:sz a≤900) :
    Calls Tryz.prog 157 #[.agg #[.int .i64 9,.string ⟨#[]⟩,.int .i64 0],.slice (some ⟨bk,0,none⟩) 1 ck] w (OutB base (sBlock S a) w):=by
  have HL:=Lib.hid hl;have HB:=Lib.hid hb;have hlt:bk<w.heap.size:=Ap.z0a q0;have CK:Hid (∀ w1,Below w.heap.size w w1→w1.cell? ⟨bk,0,none⟩=some y0∧True):=Lib.hid fun w1 hb=>by rw [hb.cell (p:=⟨bk,0,none⟩) hlt]; exact ⟨q0,trivial⟩
  have A0:=Lib.hid (fun w1 (hb:Below w.heap.size w w1)=>h0.below hb);obtain ⟨_,a0,c0,rfl,-⟩:=id h0;unfold OutB;clear q0 h0 hl hb
  go_enter Tryz.func157,Tryz.ntmps157
  go_wp2_with fail;have BW0:=z0b w (.cells #[.int .i64 9,.string ⟨#[]⟩,.int .i64 0] 68);have BC:=z0m w 9 0 ⟨#[]⟩ 68;generalize w.alloc (.cells #[.int .i64 9,.string ⟨#[]⟩,.int .i64 0] 68)=W at BW0 BC ⊢;have BW:=Lib.hid BW0;obtain ⟨x0,x1,x2⟩:=BC W (Below.refl _ _);obtain ⟨z0,-⟩:=CK.out W BW0;have BD:=Lib.hid (BW.out.drew);clear BW0 BC
  go_still_tail 4,(by kernel_rfl)
  change wpList _ _ _ _ _ W.drew;go_wp2_with fail;refine (y6o base a _ _ (A0.out _ BD.out) PB.out (Nat.le_trans HB.out BD.out.size) HL.out).mono ?_;rintro e w1 ⟨y,rfl,hn,hb⟩;have N1:=Lib.hid hn;have D1:=Lib.hid (BD.out.trans (hb.mono BD.out.size));clear hn hb;go_wp2_with fail;go_ret;exact ⟨_,rfl,N1.out,D1.out⟩
theorem x6p (base:Nat) (v:Value) (w:World) (hv:Rws w v []) (hb:base≤w.heap.size) :
    Calls Tryz.prog 157 #[.agg #[.int .i64 2,.string ⟨#[]⟩,.int .i64 0],v] w (OutB base (.over 1) w):=by
  have HB:=Lib.hid hb;obtain ⟨cs,hRd,-⟩:=hv;obtain ⟨_,ak,ck,rfl,-⟩:=hRd;unfold OutB;clear hb
  go_enter Tryz.func157,Tryz.ntmps157
  go_wp2_with fail;have B0:=Lib.hid (z0b w (.cells #[.int .i64 2,.string ⟨#[]⟩,.int .i64 0] 68));refine (z1e 1 _).mono ?_;rintro e w1 ⟨rfl,hb1⟩;have D1:=Lib.hid (B0.out.trans (hb1.mono B0.out.size));clear hb1;go_wp2_with fail;refine (mkP0 base 11 1 (.over 1) rfl _ (Nat.le_trans HB.out D1.out.size)).mono ?_;rintro e w2 ⟨y,rfl,hn,hb⟩;have N2:=Lib.hid hn;have D2:=Lib.hid (D1.out.trans (hb.mono D1.out.size));clear hn hb;go_wp2_with fail;go_ret;exact ⟨_,rfl,N2.out,D2.out⟩
theorem x0n (base:Nat) (v:Value) (w:World) (hv:Rws w v []) (hb:base≤w.heap.size) :
    Calls Tryz.prog 157 #[.agg #[.int .i64 3,.string ⟨#[]⟩,.int .i64 0],v] w (OutB base (.over 2) w):=by
  have HB:=Lib.hid hb;obtain ⟨cs,hRd,-⟩:=hv;obtain ⟨_,ak,ck,rfl,-⟩:=hRd;unfold OutB;clear hb
  go_enter Tryz.func157,Tryz.ntmps157
  go_wp2_with fail;have B0:=Lib.hid (z0b w (.cells #[.int .i64 3,.string ⟨#[]⟩,.int .i64 0] 68));refine (z1e 2 _).mono ?_;rintro e w1 ⟨rfl,hb1⟩;have D1:=Lib.hid (B0.out.trans (hb1.mono B0.out.size));clear hb1;go_wp2_with fail;refine (mkP0 base 11 2 (.over 2) rfl _ (Nat.le_trans HB.out D1.out.size)).mono ?_;rintro e w2 ⟨y,rfl,hn,hb⟩;have N2:=Lib.hid hn;have D2:=Lib.hid (D1.out.trans (hb.mono D1.out.size));clear hn hb;go_wp2_with fail;go_ret;exact ⟨_,rfl,N2.out,D2.out⟩
theorem mkP_any (base:Nat) (k s:Int) (nm:ByteArray) (ls:List (List Nd)) (t:Tm) (h:flat t=⟨k,nm,s⟩::ls.flatten) (v:Value) (w:World) (hv:Rws w v ls) (hl:ls.length≤2) (hs:sz t≤1000) (hb:base≤w.heap.size) :
    Calls Tryz.prog 207 #[.agg #[.int .i64 k,.string nm,.int .i64 s],v] w (OutB base t w):=mkP base ⟨k,nm,s⟩ ls t h v w hv hl hs hb
theorem z3q (base:Nat) (k s:Int) (nm:ByteArray) (ls:List (List Nd)) (t:Tm) (h:flat t=⟨k,nm,s⟩::ls.flatten) (hk:k≠2∧k≠3∧k≠5∧k≠7∧k≠8∧k≠9∧k≠12∧k≠13) (v:Value) (w:World) (hv:Rws w v ls) (hl:ls.length≤2) (hs:sz t≤1000) (hb:base≤w.heap.size) :
    Calls Tryz.prog 157 #[.agg #[.int .i64 k,.string nm,.int .i64 s],v] w (OutB base t w):=by
  have HB:=Lib.hid hb;have HT:=Lib.hid (fun w1 (hb:Below w.heap.size w w1)=>hv.below hb);have HM:=Lib.hid (fun v w1 (h1:Rws w1 v ls) (h2:base≤w1.heap.size)=>mkP_any base k s nm ls t h v w1 h1 hl hs h2);obtain ⟨cs,hRd,-⟩:=hv;obtain ⟨_,ak,ck,rfl,-⟩:=hRd;obtain ⟨q2,q3,q5,q7,q8,q9,q12,q13⟩:=hk;have f2:(k==2)=false:=by rw [beq_eq_false_iff_ne]; exact q2
  have f3:(k==3)=false:=by rw [beq_eq_false_iff_ne]; exact q3
  have f5:(k==5)=false:=by rw [beq_eq_false_iff_ne]; exact q5
  have f7:(k==7)=false:=by rw [beq_eq_false_iff_ne]; exact q7
  have f8:(k==8)=false:=by rw [beq_eq_false_iff_ne]; exact q8
  have f9:(k==9)=false:=by rw [beq_eq_false_iff_ne]; exact q9
  have f12:(k==12)=false:=by rw [beq_eq_false_iff_ne]; exact q12
  have f13:(k==13)=false:=by rw [beq_eq_false_iff_ne]; exact q13
  unfold OutB;clear hb h hl hs q2 q3 q5 q7 q8 q9 q12 q13
  go_enter Tryz.func157,Tryz.ntmps157
  go_wp2_with fail;have B0:=Lib.hid (z0b w (.cells #[.int .i64 k,.string nm,.int .i64 s] 68));refine (HM.out _ _ (HT.out _ B0.out) (Nat.le_trans HB.out B0.out.size)).mono ?_;rintro e w2 ⟨y,rfl,hn,hb⟩;have N2:=Lib.hid hn;have D2:=Lib.hid (B0.out.trans (hb.mono B0.out.size));clear hn hb;go_wp2_with fail;go_ret;exact ⟨_,rfl,N2.out,D2.out⟩
end Se
namespace Se
open Go Rw YtpingbiibbmcaaaGreatDoor.So Tr Mn
theorem x3a (t:Tm):0<(flat t).length:=by rw [flat_len]; exact z0e t
theorem y0z (t:Tm):Mt (flat t)=Mn.stepT Mt Mp (flat t):=(M_eq (x3a t)).1
theorem y9h (t:Tm):Mp (flat t)=Mn.stepP Mt Mp (flat t):=(M_eq (x3a t)).2
theorem z9t:Mt (flat .skip)=[tick]:=by rw [y0z]; rfl
theorem mt_throw:Mt (flat .throw)=[bang]:=by rw [y0z]; rfl
theorem z0u (s:Int):Mt (flat (.over s))=[⟨[],s⟩]:=by rw [y0z]; rfl
theorem x2c (a b:Tm):Mt (flat (.seq a b))=norm (two 5 (Mt (flat a)) (Mt (flat b))):=by rw [y0z,z6s (l:=flat (.seq a b)) (.inl rfl),y1z,y1w]; rfl
theorem z9u (a b:Tm):Mt (flat (.par a b))=norm (two 7 (Mt (flat a)) (Mt (flat b))):=by rw [y0z,z6s (l:=flat (.par a b)) (.inr (.inr (.inl rfl))),y2a,y1x]; rfl
theorem y9g (a b:Tm):Mt (flat (.hand a b))=norm (two 8 (Mt (flat a)) (Mt (flat b))):=by rw [y0z,z6s (l:=flat (.hand a b)) (.inr (.inr (.inr rfl))),y9s,y9q]; rfl
theorem z8h (a:Tm):Mt (flat (.block a))=norm (blk (Mp (flat a))):=by rw [y0z,y8d (l:=flat (.block a)) rfl,y3v]
theorem v0w (a b:Tm):Mp (flat (.seq a b))=pnorm (seq (Mp (flat a)) (Mp (flat b))):=by rw [y9h,z8v (l:=flat (.seq a b)) (.inl rfl),y1z,y1w]; rfl
theorem x2d (a b:Tm):Mp (flat (.par a b))=pnorm (par (Mp (flat a)) (Mp (flat b))):=by rw [y9h,z8v (l:=flat (.par a b)) (.inr (.inr rfl)),y2a,y1x]; rfl
theorem z8i (a b:Tm):Mp (flat (.going a b))=pnorm (going (Mt (flat a)) (Mt (flat b))):=by rw [y9h,x1k (l:=flat (.going a b)) rfl,x2p,x2n]
theorem y3o (a b:Tm):Mp (flat (.stack a b))=pnorm (stack (Mp (flat a)) (Mt (flat b))):=by rw [y9h,x1j (l:=flat (.stack a b)) rfl,x2o,x2m]
theorem z4g (s:Int) (c:Tm):Mp (flat (.fin s c))=pnorm (fin s (Mt (flat c))):=by rw [y9h,x1i (l:=flat (.fin s c)) rfl,k0_fin]; rfl
theorem z2v {s:Int} {C:List Tr} {z:Pr}:z∈fin s C↔∃ c∈C,z=⟨⟨[],s⟩,c⟩:=by
  unfold fin;rw [List.mem_map];exact ⟨fun ⟨c,h,e⟩=>⟨c,h,e.symm⟩,fun ⟨c,h,e⟩=>⟨c,h,e.symm⟩⟩
theorem y9i {X:List Pr} {C:List Tr} {z:Pr}:z∈stack X C↔∃ x∈X,∃ c∈C,z=⟨x.p,thn x.q c⟩:=by
  unfold stack;rw [List.mem_flatMap]
  constructor
  · rintro ⟨x,hx,h⟩;obtain ⟨c,hc,e⟩:=List.mem_map.1 h;exact ⟨x,hx,c,hc,e.symm⟩
  · rintro ⟨x,hx,c,hc,e⟩;exact ⟨x,hx,List.mem_map.2 ⟨c,hc,e.symm⟩⟩
theorem x1g (x d:Tm):Mp (flat (stk x d))=pnorm (stack (Mp (flat x)) (Mt (flat d))):=by
  cases x with
  | fin s c=>
    show Mp (flat (.fin s (.seq c d)))=_
    rw [z4g,z4g,x2c];refine z3v fun z=>?_
    rw [z2v,y9i]
    constructor
    · rintro ⟨q,hq,rfl⟩;obtain ⟨c',hc',d',hd',rfl⟩:=mem5.1 ((z0s _ _).1 hq);exact ⟨⟨⟨[],s⟩,c'⟩,(z0l _ _).2 (z2v.2 ⟨c',hc',rfl⟩),d',hd',rfl⟩
    · rintro ⟨y,hy,d',hd',rfl⟩;obtain ⟨c',hc',rfl⟩:=z2v.1 ((z0l _ _).1 hy);exact ⟨thn c' d',(z0s _ _).2 (mem5.2 ⟨c',hc',d',hd',rfl⟩),rfl⟩
  | _=>exact y3o _ _
theorem thn_no {s:Int} (h:s≠1) (q:Tr):thn ⟨[],s⟩ q=⟨[],s⟩:=by unfold thn; rw [if_neg h]
theorem hnd_no {s:Int} (h:s≠2) (q:Tr):hnd ⟨[],s⟩ q=⟨[],s⟩:=by unfold hnd; rw [if_neg h]
theorem seq_no {s:Int} (h:s≠1) {B:List Tr} (hB:B≠[]):norm (two 5 [⟨[],s⟩] B)=[⟨[],s⟩]:=z3w (y5e _) fun t=>by
  rw [mem5,List.mem_singleton]
  constructor
  · rintro rfl;obtain ⟨q,hq⟩:=List.exists_mem_of_ne_nil B hB;exact ⟨_,by simp,q,hq,(thn_no h q).symm⟩
  · rintro ⟨p,hp,q,_,rfl⟩;rw [List.mem_singleton] at hp;rw [hp,thn_no h]
theorem hand_no {s:Int} (h:s≠2) {B:List Tr} (hB:B≠[]):norm (two 8 [⟨[],s⟩] B)=[⟨[],s⟩]:=z3w (y5e _) fun t=>by
  rw [mem8,List.mem_singleton]
  constructor
  · rintro rfl;obtain ⟨q,hq⟩:=List.exists_mem_of_ne_nil B hB;exact ⟨_,by simp,q,hq,(hnd_no h q).symm⟩
  · rintro ⟨p,hp,q,_,rfl⟩;rw [List.mem_singleton] at hp;rw [hp,hnd_no h]
theorem y3e (s t:Int):pr ⟨[],s⟩ ⟨[],t⟩=[⟨[],Sg.both s t⟩]:=rfl
theorem x9t (s t:Int):norm (two 7 [⟨[],s⟩] [⟨[],t⟩])=[⟨[],Sg.both s t⟩]:=z3w (y5e _) fun u=>by
  rw [mem7,List.mem_singleton]
  constructor
  · rintro rfl;exact ⟨⟨[],s⟩,by simp,⟨[],t⟩,by simp,by rw [y3e]; simp⟩
  · rintro ⟨p,hp,q,hq,h⟩;rw [List.mem_singleton] at hp hq;rw [hp,hq,y3e,List.mem_singleton] at h;exact h
theorem par_fin' (s t:Int) (C D:List Tr):pnorm (par (pnorm (fin s C)) (pnorm (fin t D)))=pnorm (fin (Sg.both s t) (norm (two 7 C D))):=by
  refine z3v fun z=>?_
  unfold par;simp only [List.mem_flatMap,z6c,z0l,z2v]
  constructor
  · rintro ⟨x,⟨c,hc,rfl⟩,y,⟨d,hd,rfl⟩,h1,h2⟩;rw [y3e,List.mem_singleton] at h1;refine ⟨z.q,(z0s _ _).2 (mem7.2 ⟨c,hc,d,hd,h2⟩),?_⟩
    cases z
    simp only at h1;rw [h1]
  · rintro ⟨q,hq,rfl⟩;obtain ⟨c,hc,d,hd,h⟩:=mem7.1 ((z0s _ _).1 hq);exact ⟨_,⟨c,hc,rfl⟩,_,⟨d,hd,rfl⟩,by rw [y3e]; simp,h⟩
theorem seq_fin1 (C:List Tr) (Y:List Pr):pnorm (seq (pnorm (fin 1 C)) Y)=pnorm (stack Y C):=by
  refine z3v fun z=>?_
  unfold seq;simp only [List.mem_flatMap,z0l,z2v,y9i]
  constructor
  · rintro ⟨x,⟨c,hc,rfl⟩,h⟩;unfold seq1 at h;rw [if_pos rfl,List.mem_map] at h;obtain ⟨y,hy,rfl⟩:=h;exact ⟨y,hy,c,hc,by rw [show thn ⟨[],1⟩ y.p=y.p from z7w _]⟩
  · rintro ⟨y,hy,c,hc,rfl⟩;refine ⟨_,⟨c,hc,rfl⟩,?_⟩;unfold seq1;rw [if_pos rfl,List.mem_map];exact ⟨y,hy,by rw [show thn ⟨[],1⟩ y.p=y.p from z7w _]⟩
theorem seq_fin {s:Int} (h:s≠1) (C:List Tr) (Y:List Pr):pnorm (seq (pnorm (fin s C)) Y)=pnorm (fin s C):=by
  refine z3v fun z=>?_
  unfold seq;simp only [List.mem_flatMap,z0l,z2v]
  constructor
  · rintro ⟨x,⟨c,hc,rfl⟩,h1⟩;unfold seq1 at h1;rw [if_neg h,List.mem_singleton] at h1;exact ⟨c,hc,h1⟩
  · rintro ⟨c,hc,rfl⟩;refine ⟨_,⟨c,hc,rfl⟩,?_⟩;unfold seq1;rw [if_neg h,List.mem_singleton]
theorem blk_fin1 {C:List Tr} (h:C≠[]):norm (blk (pnorm (fin 1 C)))=[⟨[],1⟩]:=z3w (y5e _) fun t=>by
  rw [y9k,List.mem_singleton]
  constructor
  · rintro rfl;obtain ⟨c,hc⟩:=List.exists_mem_of_ne_nil C h;refine ⟨⟨⟨[],1⟩,c⟩,(z0l _ _).2 (z2v.2 ⟨c,hc,rfl⟩),?_⟩;unfold blk1;rw [if_pos rfl];simp
  · rintro ⟨x,hx,h1⟩;obtain ⟨c,_,rfl⟩:=z2v.1 ((z0l _ _).1 hx);unfold blk1 at h1;rw [if_pos rfl,List.mem_singleton] at h1;exact h1
theorem blk_fin2 {C:List Tr} (h:Up C):norm (blk (pnorm (fin 2 C)))=C:=z3w h fun t=>by
  rw [y9k]
  constructor
  · intro ht;refine ⟨⟨⟨[],2⟩,t⟩,(z0l _ _).2 (z2v.2 ⟨t,ht,rfl⟩),?_⟩;unfold blk1;rw [if_neg (by simp),if_pos rfl,List.mem_singleton]
    rfl
  · rintro ⟨x,hx,h1⟩;obtain ⟨c,hc,rfl⟩:=z2v.1 ((z0l _ _).1 hx);unfold blk1 at h1;rw [if_neg (by simp),if_pos rfl,List.mem_singleton] at h1;rw [h1];exact hc
theorem x6d (B:List Tr):going [⟨[],1⟩] B=fin 1 B:=by
  unfold going fin;simp [going1]
theorem going_no {s:Int} (h:s≠1) (B:List Tr):going [⟨[],s⟩] B=fin s [tick]:=by
  unfold going fin;simp [going1,h]
theorem x7m {t:Tm} (h:is t 3=true):Up (Mt (flat t)):=(gt (z0i t) (by rw [z2k t 3 (by omega)]; exact h)).up
def ac (t:Tm):Nat:=ct (fun x=>decide (x.k=1)&&all x.n) t
theorem v4f (t:Tm):acs (flat t)=ac t:=rfl
theorem plainA:Plain (fun x=>decide (x.k=1)&&all x.n):=⟨fun _=>rfl,fun _=>rfl,rfl,rfl,rfl,rfl,rfl⟩
theorem S_ac (t:Tm):ac (S t)≤ac t:=S_ct plainA t
theorem z4h {t a b:Tm} {k:Int} (e:flat t=nOf k::(flat a++flat b)) (hk:k≠1):ac t=ac a+ac b:=by
  unfold ac;rw [y0p e];simp [nOf,hk]
theorem z6q (a:Tm):ac (.block a)=ac a:=by unfold ac; rw [z4a]; rfl
theorem ac_fin (s:Int) (c:Tm):ac (.fin s c)=ac c:=by unfold ac; rw [z7s]; rfl
theorem ne_mt {t:Tm} (h:is t 1=true) (ha:ac t≤19):Mt (flat t)≠[]:=(live1 (z0i t) ha (by rw [z2k t 1 (by omega)]; exact h)).ne
theorem S_mean:∀ t:Tm,ac t≤19→(is t 3=true→Mt (flat (S t))=Mt (flat t))∧(is t 4=true→Mp (flat (S t))=Mp (flat t)):=by
  apply y7t
  intro t ih ha
  cases t with
  | act s=>exact ⟨fun _=>rfl,fun _=>rfl⟩
  | skip=>exact ⟨fun _=>by rw [y7s,z0u,z9t]; rfl,fun h=>by simp [is] at h⟩
  | throw=>exact ⟨fun _=>by rw [y0x,z0u,mt_throw]; rfl,fun h=>by simp [is] at h⟩
  | yield=>exact ⟨fun _=>rfl,fun _=>rfl⟩
  | over s=>exact ⟨fun _=>rfl,fun _=>rfl⟩
  | fin s c=>exact ⟨fun _=>rfl,fun _=>rfl⟩
  | alt a b=>exact ⟨fun _=>rfl,fun _=>rfl⟩
  | pair a b=>exact ⟨fun _=>rfl,fun _=>rfl⟩
  | seq a b=>
    rw [z4h (k:=5) (a:=a) (b:=b) rfl (by decide)] at ha;have ia:=ih a (by simp [sz]; omega) (by omega);have ib:=ih b (by simp [sz]; omega) (by omega);have ks:=S_is a;rw [y4x];generalize S a=x at ia ks ⊢
    constructor
    · intro h;simp [is] at h;have hb3:=(is13 b).1 h.2;rw [x2c,← ia.1 h.1];have k3:=ks.1 h.1
      cases x with
      | over s=>
        rw [z0u]
        by_cases hs:s=1
        · subst hs
          show Mt (flat (S b))=_
          rw [ib.1 hb3];exact (unit_l (x7m hb3)).symm
        · have e:sSeq S (.over s) b=.over s:=by simp [sSeq,hs]
          rw [e,z0u,seq_no hs (ne_mt h.2 (by omega))]
      | fin s c=>simp [is] at k3
      | _=>exact x2c _ _
    · intro h;simp [is] at h;have hb4:=(is13 b).2 h.2;rw [v0w,← ia.2 h.1];have k4:=ks.2 h.1
      cases x with
      | over s=>simp [is] at k4
      | fin s c=>
        rw [z4g]
        by_cases hs:s=1
        · subst hs
          show Mp (flat (stk (S b) c))=_
          rw [x1g,ib.2 hb4,seq_fin1]
        · have e:sSeq S (.fin s c) b=.fin s c:=by simp [sSeq,hs]
          rw [e,z4g,seq_fin hs]
      | _=>exact v0w _ _
  | hand a b=>
    rw [z4h (k:=8) (a:=a) (b:=b) rfl (by decide)] at ha;have ia:=ih a (by simp [sz]; omega) (by omega);have ib:=ih b (by simp [sz]; omega) (by omega);have ks:=S_is a;rw [z6r];generalize S a=x at ia ks ⊢
    constructor
    · intro h;simp [is] at h;have hb3:=(is13 b).1 h.2;rw [y9g,← ia.1 h.1];have k3:=ks.1 h.1
      cases x with
      | over s=>
        rw [z0u]
        by_cases hs:s=2
        · subst hs
          show Mt (flat (S b))=_
          rw [ib.1 hb3];exact (x7n (x7m hb3)).symm
        · have e:sHand S (.over s) b=.over s:=by simp [sHand,hs]
          rw [e,z0u,hand_no hs (ne_mt h.2 (by omega))]
      | _=>exact y9g _ _
    · intro h;simp [is] at h
  | par a b=>
    rw [z4h (k:=7) (a:=a) (b:=b) rfl (by decide)] at ha;have ia:=ih a (by simp [sz]; omega) (by omega);have ib:=ih b (by simp [sz]; omega) (by omega);have ks:=S_is a;rw [y4y];generalize S a=x at ia ks ⊢;generalize S b=y at ib ⊢
    constructor
    · intro h;simp [is] at h;have k3:=ks.1 h.1;rw [z9u,← ia.1 h.1,← ib.1 h.2]
      cases x with
      | over s=>
        cases y with
        | over t=>
          show Mt (flat (.over (Sg.both s t)))=_
          rw [z0u,z0u,z0u,x9t]
        | _=>exact z9u _ _
      | fin s c=>simp [is] at k3
      | _=>exact z9u _ _
    · intro h;simp [is] at h;have k4:=ks.2 h.1;rw [x2d,← ia.2 h.1,← ib.2 h.2]
      cases x with
      | fin s c=>
        cases y with
        | fin t d=>
          show Mp (flat (.fin (Sg.both s t) (.par c d)))=_
          rw [z4g,z4g,z4g,z9u,par_fin']
        | _=>exact x2d _ _
      | over s=>simp [is] at k4
      | _=>exact x2d _ _
  | block a=>
    rw [z6q] at ha;have ia:=ih a (by simp [sz]) ha;have ks:=S_is a;have hz:=S_sz a;have hc:=S_ac a;rw [z4f];generalize S a=x at ia ks hz hc ⊢
    constructor
    · intro h;simp [is] at h;rw [z8h,← ia.2 h];have k4:=ks.2 h
      cases x with
      | fin s c=>
        simp [is] at k4;simp only [sz] at hz;rw [ac_fin] at hc;rw [z4g]
        by_cases h1:s=1
        · subst h1
          show Mt (flat (.over 1))=_
          rw [z0u,blk_fin1 (ne_mt k4 (by omega))]
        · by_cases h2:s=2
          · subst h2
            show Mt (flat (S c))=_
            have k3:=(is13 c).1 k4;rw [(ih c (by simp [sz]; omega) (by omega)).1 k3,blk_fin2 (x7m k3)]
          · have e:sBlock S (.fin s c)=.block (.fin s c):=by simp [sBlock,h1,h2]
            rw [e,z8h,z4g]
      | _=>exact z8h _
    · intro h;simp [is] at h
  | going a b=>
    rw [z4h (k:=12) (a:=a) (b:=b) rfl (by decide)] at ha;have ia:=ih a (by simp [sz]; omega) (by omega);rw [z4e];generalize S a=x at ia ⊢
    constructor
    · intro h;simp [is] at h
    · intro h;simp [is] at h;rw [z8i,← ia.1 h.1]
      cases x with
      | over s=>
        rw [z0u]
        by_cases hs:s=1
        · subst hs
          show Mp (flat (.fin 1 b))=_
          rw [z4g,x6d]
        · have e:sGoing (.over s) b=.fin s .skip:=by simp [sGoing,hs]
          rw [e,z4g,z9t,going_no hs]
      | _=>exact z8i _ _
  | stack a b=>
    rw [z4h (k:=13) (a:=a) (b:=b) rfl (by decide)] at ha;have ia:=ih a (by simp [sz]; omega) (by omega);rw [z4d,x1g]
    constructor
    · intro h;simp [is] at h
    · intro h;simp [is] at h;rw [y3o,ia.2 h.1]
end Se
namespace Do
open Go Rw YtpingbiibbmcaaaGreatDoor.So Se Tr Mn
def wt:Tm→Nat→List Nat
  | .act _,i=>[i]
  | .yield,i=>[i]
  | .alt _ _,i=>[i]
  | .pair _ _,i=>[i]
  | .seq a _,i=>wt a (i+1)
  | .hand a _,i=>wt a (i+1)
  | .going a _,i=>wt a (i+1)
  | .stack a _,i=>wt a (i+1)
  | .block a,i=>wt a (i+1)
  | .par a b,i=>wt a (i+1)++wt b (i+1+sz a)
  | _,_=>[]
def bangT:Tm→Bool
  | .over s=>s==2
  | .fin s _=>s==2
  | .seq a _=>bangT a
  | .going a _=>bangT a
  | .stack a _=>bangT a
  | .par a b=>bangT a||bangT b
  | _=>false
theorem z5j:∀ (t:Tm) (i:Nat),∀ k∈wt t i,i≤k∧k<i+sz t:=by
  intro t
  induction t with
  | par a b ia ib=>
    intro i k hk;simp only [wt,List.mem_append] at hk;simp only [sz]
    rcases hk with hk | hk
    · have:=ia _ _ hk; omega
    · have:=ib _ _ hk; omega
  | seq a b ia ib=>intro i k hk; have:=ia _ _ (by simpa [wt] using hk); simp only [sz]; omega
  | hand a b ia ib=>intro i k hk; have:=ia _ _ (by simpa [wt] using hk); simp only [sz]; omega
  | going a b ia ib=>intro i k hk; have:=ia _ _ (by simpa [wt] using hk); simp only [sz]; omega
  | stack a b ia ib=>intro i k hk; have:=ia _ _ (by simpa [wt] using hk); simp only [sz]; omega
  | block a ia=>intro i k hk; have:=ia _ _ (by simpa [wt] using hk); simp only [sz]; omega
  | skip=>intro i k hk; simp [wt] at hk
  | throw=>intro i k hk; simp [wt] at hk
  | over s=>intro i k hk; simp [wt] at hk
  | fin s c=>intro i k hk; simp [wt] at hk
  | _=>intro i k hk; simp only [wt,List.mem_singleton] at hk; simp only [sz]; omega
theorem wt_up:∀ (t:Tm) (i:Nat),(wt t i).Pairwise (· < ·):=by
  intro t
  induction t with
  | par a b ia ib=>
    intro i;simp only [wt];rw [List.pairwise_append];exact ⟨ia _,ib _,fun x hx y hy=>by have h1:=z5j a _ x hx; have h2:=z5j b _ y hy; omega⟩
  | seq a b ia ib=>intro i; exact ia _
  | hand a b ia ib=>intro i; exact ia _
  | going a b ia ib=>intro i; exact ia _
  | stack a b ia ib=>intro i; exact ia _
  | block a ia=>intro i; exact ia _
  | _=>intro i; simp [wt]
theorem st_mt {t:Tm} (h:is t 3=true) (hr:rg t=true):ST (Mt (flat t)):=(gt (z0i t) (by rw [z2k t 3 (by omega)]; exact h)).sg hr
theorem sp_mp {t:Tm} (h:is t 4=true) (hr:rg t=true):SP (Mp (flat t)):=(gp (z0i t) (by rw [z2k t 4 (by omega)]; exact h)).sg hr
end Do
namespace Mn
open Go Go.RowKit Tr
theorem flat_snoc {α β:Type} (f:α→List β) (l:List α) (k:Nat) (h:k<l.length):(l.take (k+1)).flatMap f=(l.take k).flatMap f++f l[k]:=by
  rw [List.take_succ_eq_append_getElem h,List.flatMap_append];simp
def Apart (ok:Nat→Prop) (v:Value) (b:Nat):Prop:=ok b∧some b≠v.ownBlock
theorem z7l {ok:Nat→Prop} {w w':World} {v v' x:Value} {l:List ByteArray} (h:StrsO (Apart ok v) w x l) (hg:w.grownBy w' v.ownBlock) (hf:Ap.Fresh w v v'):StrsO (Apart ok v') w' x l:=Ap.RdO.grow h hg hf
theorem y3g {w:World} {base size n:Nat} {e:TypeId} {v:Value} {xs:List Value} (h:w.ownsRow base e size v n xs):∀ b,some b=v.ownBlock→base≤b∧b<w.heap.size:=fun b hb=>by
  refine ⟨?_,Ap.y6b h b hb.symm⟩;obtain ⟨_,⟨rfl,_⟩ | ⟨g,cap,cur,rfl,hg,_⟩⟩:=h
  · cases hb
  · cases hb
    exact hg
end Mn
namespace Pl
open Go Go.RowKit Rw YtpingbiibbmcaaaGreatDoor.So Ro
theorem v0j (a:Option Addr) (n c:Nat) (w:World) :
    Calls Tryz.prog 308 #[.slice a n c] w fun e w'=>e=.returned (.func (.func 319) #[] #[.pointer (some ⟨w.heap.size,0,none⟩)])∧w'=w.alloc (.cells #[.slice a n c] 22):=by
  go_enter Tryz.func308,Tryz.ntmps308
  go_wp2_with fail;go_ret;exact ⟨rfl,rfl⟩
theorem Told.stay {l:List Nd} (k:Nat) (args:Array Value) (A:World) (r:Nat) (o o':Obj) (h:A.heap[r]?=some o) (hc:o.isCells=false) (he:Told l k args A):Told l k args (A.putObj r o'):=by
  obtain ⟨v,rfl,hl,a,cap,rfl,h1,h2,h3⟩:=he;refine ⟨_,rfl,hl,a,cap,rfl,h1,h2,fun h0=>?_⟩;obtain ⟨b,off,rfl,hj⟩:=h3 h0;exact ⟨b,off,rfl,fun j u hu=>cell_kept (hj j u hu) (grownBy_putObj' A r o') fun q e=>by cases e; exact ⟨o,h,hc⟩⟩
theorem Told.size {l:List Nd} (k:Nat) (args:Array Value) (A:World) (he:Told l k args A):args.size=2:=by
  obtain ⟨v,rfl,_⟩:=he
  rfl
theorem iter_any (B:Nat) (v:Value) (l:List Nd) (wc w0:World) (hv:Nds wc v l) (hl:l.length≤4398046511104) (hbc:Below wc.heap.size wc w0) (hc:w0.cell? ⟨B,0,none⟩=some v) :
    Iter Tryz.prog 319 #[.pointer (some ⟨B,0,none⟩)] (rounds l) (Told l) wc.heap.size w0:=by
  intro l0 J Jx W hbW hJ hY hJ0;have hcW:W.cell? ⟨B,0,none⟩=some v:=by rw [hbW.cell (Ap.z0a hc)]; exact hc
  have hbcW:Below wc.heap.size wc W:=hbc.trans (hbW.mono hbc.size);have hvW:Nds W v l:=hv.below hbcW
  show Calls Tryz.prog 319 #[.func (.yield l0) #[] #[],.pointer (some ⟨B,0,none⟩)] W _
  cases h1:one l with
  | false=>
    refine (v0k B l0 v l W hcW hvW hl h1).mono ?_;rintro e w' ⟨hr,hb⟩;have e0:rounds l=0:=by unfold rounds; rw [h1]; rfl
    exact ⟨hr,_,.inl (by rw [e0]; exact hJ _ 0 W w' hJ0 (fun _ h=>h.elim) (Turn.of_below hb))⟩
  | true=>
    have e0:rounds l=l.length:=by unfold rounds; rw [h1]; rfl
    have hpos:=(y9a.1 h1).pos;rw [e0] at hY ⊢
    rcases hv.form with ⟨rfl,_⟩ | ⟨b,off,cap,rfl,hcap,hat⟩
    · exact absurd hpos (Nat.lt_irrefl 0)
    · have hb0:b<wc.heap.size:=Ap.z0a (hat 0 hpos).1
      have hatW:At W b off l:=fun k hk=>by
        obtain ⟨e1,e2,e3⟩:=hat k hk;exact ⟨by rw [hbcW.cell (Ap.z0a e1)]; exact e1,by rw [hbcW.cell (Ap.z0a e2)]; exact e2,by rw [hbcW.cell (Ap.z0a e3)]; exact e3⟩
      exact y9f B l0 b off cap wc.heap.size l W hcW hvW hatW hl h1 hbcW.size hb0 J Jx hJ hY hJ0
end Pl
end Go.Proofs.YtpingbiibbmcaaaGreatDoor
