/- Laws that the last text leans on. -/
import Derived.Test.YtpingbiibbmcaaaGreatDoorQ23
import Derived.Shelf.Abstract

set_option maxRecDepth 20000
set_option maxHeartbeats 4000000
namespace Go.Proofs.YtpingbiibbmcaaaGreatDoor
namespace Se
open Go Go.RowKit Rw YtpingbiibbmcaaaGreatDoor.So
theorem z1c (t res:Tm) (kk s:Int) (nm:ByteArray) (ls:List (List Nd)) (hkids:kids (flat t)=ls) (hkd:kd t=kk) (hnm:nmT t=nm) (hsg:sg t=s) (hgo:∀ w,Calls Tryz.prog 156 #[.int .i64 kk] w fun e w'=>e=.returned (.int .i64 0)∧w=w') (v:Value) (w:World) (hv:Nds w v (flat t)) (hcm:∀ y w1,Rws w1 y ls→w.heap.size≤w1.heap.size→Calls Tryz.prog 157 #[.agg #[.int .i64 kk,.string nm,.int .i64 s],y] w1 (OutB w.heap.size res w1)) (hl:sz t≤400) :
    Calls Tryz.prog 96 #[v] w (OutB w.heap.size res w):=by
  have HK:Hid (∀ w1,Below w.heap.size w w1→Calls Tryz.prog 97 #[v] w1 (Rx.KidsOwn ls w1)):=Lib.hid fun w1 hb=>by
    have h:=Rx.z3o v (flat t) w1 (hv.below hb) (by rw [flat_len]; omega);rw [hkids] at h;exact h
  have GO:=Lib.hid hgo;have HCM:=Lib.hid hcm;obtain ⟨bb,oo,cc,rfl,hc,hlt,hw,hat⟩:=z1w hv;obtain ⟨nn,hn⟩:∃ n,sz t=n+1:=⟨sz t-1,by have:=z0e t; omega⟩
  rw [hn] at hc HK ⊢;have g3:(1:Int)≤(nn:Int)+1:=by omega
  rw [hkd,hnm,hsg] at hw;obtain ⟨e0,e1,e2⟩:=hw w (Below.refl _ _);unfold OutB;clear hat hv hl hn hw hcm hgo hkids hkd hnm hsg
  go_enter Tryz.func96,Tryz.ntmps96
  go_upto_region 1 with fail
  go_cut [3,4] (fun s3 s4 wx=>∃ (B:Nat),s3=.pointer (some ⟨B,0,none⟩)∧w.heap.size≤B∧BoxN wx B kk s nm∧Kd w.heap.size B wx s4 ls∧Below w.heap.size w wx)
  case first=>
    clear GO HCM
    go_region_with (first
      | (go_at_call 97
         (with_reducible refine (HK.out _ (Below.refl _ _).drew).mono ?_)
         rintro e w1 ⟨y,cs,rfl,hown,hk,hb1⟩;have B1:=Lib.hid ((Below.refl w.heap.size w).drew.trans hb1);have K1:Hid (Kd w.heap.size w1.heap.size w1 y ls):=Lib.hid (y6j hown hk (.inr (Nat.le_refl _)));have c0:w1.cell? ⟨bb,oo,none⟩=some (.int .i64 kk):=by rw [B1.out.cell (p:=⟨bb,oo,none⟩) hlt]; exact e0
         have c1:w1.cell? ⟨bb,oo+1,none⟩=some (.string nm):=by rw [B1.out.cell (p:=⟨bb,oo+1,none⟩) hlt]; exact e1
         have c2:w1.cell? ⟨bb,oo+2,none⟩=some (.int .i64 s):=by rw [B1.out.cell (p:=⟨bb,oo+2,none⟩) hlt]; exact e2
         have hbl1:bb<w1.heap.size:=Ap.z0a c0;clear hown hk hb1)
      | (go_at_call 97
         (refine (HK.out _ ((Below.refl _ _).alloc (Nat.le_refl _) _).drew).mono ?_)
         rintro e w1 ⟨y,cs,rfl,hown,hk,hb1⟩;have B1:=Lib.hid (((Below.refl w.heap.size w).alloc (Nat.le_refl _) _).drew.trans (hb1.mono (by simp)));have KB:Hid (∀ u1 u2 u3:Value,Kd w.heap.size w.heap.size (((w1.setCell ⟨w.heap.size,0,none⟩ u1).setCell ⟨w.heap.size,1,none⟩ u2).setCell ⟨w.heap.size,2,none⟩ u3) y ls):=Lib.hid fun u1 u2 u3=>((Kd.base (base':=w.heap.size) (B':=w.heap.size) (y6j (B:=w.heap.size) hown hk (.inl (by simp))) (by simp) (fun k h1 _ e=>by simp at h1; omega)).setB.setB).setB
         have k0:w1.cell? ⟨w.heap.size,0,none⟩=some (.int .i64 0):=by rw [hb1.cell (p:=⟨w.heap.size,0,none⟩) (by simp)]; simp [go_sem]
         have k1:w1.cell? ⟨w.heap.size,1,none⟩=some (.string ⟨#[]⟩):=by rw [hb1.cell (p:=⟨w.heap.size,1,none⟩) (by simp)]; simp [go_sem]
         have k2:w1.cell? ⟨w.heap.size,2,none⟩=some (.int .i64 0):=by rw [hb1.cell (p:=⟨w.heap.size,2,none⟩) (by simp)]; simp [go_sem]
         have f0:w1.frozen? ⟨w.heap.size,0,none⟩=false:=by rw [hb1.frozen (p:=⟨w.heap.size,0,none⟩) (by simp)]; simp [go_sem]
         have f1:w1.frozen? ⟨w.heap.size,1,none⟩=false:=by rw [hb1.frozen (p:=⟨w.heap.size,1,none⟩) (by simp)]; simp [go_sem]
         have f2:w1.frozen? ⟨w.heap.size,2,none⟩=false:=by rw [hb1.frozen (p:=⟨w.heap.size,2,none⟩) (by simp)]; simp [go_sem]
         have c0:w1.cell? ⟨bb,oo,none⟩=some (.int .i64 kk):=by rw [B1.out.cell (p:=⟨bb,oo,none⟩) hlt]; exact e0
         have c1:w1.cell? ⟨bb,oo+1,none⟩=some (.string nm):=by rw [B1.out.cell (p:=⟨bb,oo+1,none⟩) hlt]; exact e1
         have c2:w1.cell? ⟨bb,oo+2,none⟩=some (.int .i64 s):=by rw [B1.out.cell (p:=⟨bb,oo+2,none⟩) hlt]; exact e2
         have hbl1:bb<w1.heap.size:=Ap.z0a c0;clear hown hk hb1)
      | fail)
    all_goals go_wp2_with fail
    all_goals go_meet
    all_goals first
      | exact ⟨_,rfl,B1.out.size,⟨by simp,by simp,by simp⟩,K1.out.below (z0b _ _),B1.out.alloc B1.out.size _⟩
      | exact ⟨_,rfl,Nat.le_refl _,y4q k0 k1 k2,KB.out _ _ _,((B1.out.setCell (Nat.le_refl _) _).setCell (Nat.le_refl _) _).setCell (Nat.le_refl _) _⟩
  case rest=>
    obtain ⟨B,rfl,hB,hbx,hkd,hbel⟩:=hcut;have BB:=Lib.hid hbel;have BX:=Lib.hid hbx;have KK:=Lib.hid hkd;have HLB:=Lib.hid hB;obtain ⟨x0,x1,x2⟩:=hbx;clear hbel HK e0 e1 e2 hB;obtain ⟨_,ak,ck,rfl,-⟩:=id KK.out.1.rws.choose_spec.1;clear hkd;go_wp2_with fail;refine (GO.out _).mono ?_;rintro e w0 ⟨rfl,rfl⟩;go_wp2_with fail;refine Go.wp_loop_rounds 1 ?_;rw [rounds_succ];go_wp2_with fail;unfold OutB at HCM;refine (HCM.out _ _ KK.out.1.rws (Nat.le_trans HLB.out (Nat.le_of_lt BX.out.lt))).mono ?_;rintro e w2 ⟨z,rfl,hn,hb⟩;have N2:=Lib.hid hn;have D2:=Lib.hid (BB.out.trans (hb.mono BB.out.size));clear hn hb;go_wp2_with fail;go_ret;exact ⟨_,rfl,N2.out,D2.out⟩
theorem y8j (s:ByteArray) (v:Value) (w:World) (hv:Nds w v (flat (.act s))) (hl:sz (.act s)≤400) :
    Calls Tryz.prog 96 #[v] w (OutB w.heap.size (.act s) w):=
  z1c (.act s) (.act s) 1 0 s [] (rfl) rfl rfl rfl (fun w=>z1j (.act s) w) v w hv (fun _ _ h hb=>z3q w.heap.size 1 0 s [] (.act s) (by simp [flat]) (by decide) _ _ h (by simp) (by omega) hb) hl
theorem y2r  (v:Value) (w:World) (hv:Nds w v (flat .yield)) (hl:sz .yield≤400) :
    Calls Tryz.prog 96 #[v] w (OutB w.heap.size (.yield) w):=
  z1c .yield (.yield) 4 0 ⟨#[]⟩ [] (rfl) rfl rfl rfl (fun w=>z1j .yield w) v w hv (fun _ _ h hb=>z3q w.heap.size 4 0 ⟨#[]⟩ [] .yield (by simp [flat,nOf]) (by decide) _ _ h (by simp) (by omega) hb) hl
theorem y5o (s:Int) (v:Value) (w:World) (hv:Nds w v (flat (.over s))) (hl:sz (.over s)≤400) :
    Calls Tryz.prog 96 #[v] w (OutB w.heap.size (.over s) w):=
  z1c (.over s) (.over s) 11 s ⟨#[]⟩ [] (rfl) rfl rfl rfl (fun w=>z1j (.over s) w) v w hv (fun _ _ h hb=>z3q w.heap.size 11 s ⟨#[]⟩ [] (.over s) (by simp [flat]) (by decide) _ _ h (by simp) (by omega) hb) hl
theorem y8h (s:Int) (c:Tm) (v:Value) (w:World) (hv:Nds w v (flat (.fin s c))) (hl:sz (.fin s c)≤400) :
    Calls Tryz.prog 96 #[v] w (OutB w.heap.size (.fin s c) w):=
  z1c (.fin s c) (.fin s c) 14 s ⟨#[]⟩ [flat c] (z6f s c) rfl rfl rfl (fun w=>z1j (.fin s c) w) v w hv (fun _ _ h hb=>z3q w.heap.size 14 s ⟨#[]⟩ [flat c] (.fin s c) (by simp [flat]) (by decide) _ _ h (by simp) (by omega) hb) hl
theorem y8i (a b:Tm) (v:Value) (w:World) (hv:Nds w v (flat (.alt a b))) (hl:sz (.alt a b)≤400) :
    Calls Tryz.prog 96 #[v] w (OutB w.heap.size (.alt a b) w):=
  z1c (.alt a b) (.alt a b) 6 0 ⟨#[]⟩ [flat a,flat b] (z5e a b) rfl rfl rfl (fun w=>z1j (.alt a b) w) v w hv (fun _ _ h hb=>z3q w.heap.size 6 0 ⟨#[]⟩ [flat a,flat b] (.alt a b) (by simp [flat,nOf]) (by decide) _ _ h (by simp) (by omega) hb) hl
theorem y5n (a b:Tm) (v:Value) (w:World) (hv:Nds w v (flat (.pair a b))) (hl:sz (.pair a b)≤400) :
    Calls Tryz.prog 96 #[v] w (OutB w.heap.size (.pair a b) w):=
  z1c (.pair a b) (.pair a b) 10 0 ⟨#[]⟩ [flat a,flat b] (z3l a b) rfl rfl rfl (fun w=>z1j (.pair a b) w) v w hv (fun _ _ h hb=>z3q w.heap.size 10 0 ⟨#[]⟩ [flat a,flat b] (.pair a b) (by simp [flat,nOf]) (by decide) _ _ h (by simp) (by omega) hb) hl
theorem y5m  (v:Value) (w:World) (hv:Nds w v (flat .skip)) (hl:sz .skip≤400) :
    Calls Tryz.prog 96 #[v] w (OutB w.heap.size (.over 1) w):=
  z1c .skip (.over 1) 2 0 ⟨#[]⟩ [] (rfl) rfl rfl rfl (fun w=>z1j .skip w) v w hv (fun _ _ h hb=>x6p w.heap.size _ _ h hb) hl
theorem y2s  (v:Value) (w:World) (hv:Nds w v (flat .throw)) (hl:sz .throw≤400) :
    Calls Tryz.prog 96 #[v] w (OutB w.heap.size (.over 2) w):=
  z1c .throw (.over 2) 3 0 ⟨#[]⟩ [] (rfl) rfl rfl rfl (fun w=>z1j .throw w) v w hv (fun _ _ h hb=>x0n w.heap.size _ _ h hb) hl
theorem z2m (t a b res:Tm) (kk:Int) (hkids:kids (flat t)=[flat a,flat b]) (hkd:kd t=kk) (hnm:nmT t=⟨#[]⟩) (hsg:sg t=0) (hgo:∀ w,Calls Tryz.prog 156 #[.int .i64 kk] w fun e w'=>e=.returned (.int .i64 1)∧w=w') (v:Value) (w:World) (hv:Nds w v (flat t)) (PA:Hid (PS a)) (hcm:∀ g ck y0 y1 w1,w1.cell? ⟨g,0,none⟩=some y0→w1.cell? ⟨g,1,none⟩=some y1→NdO w.heap.size w1 y0 (S a)→Nds w1 y1 (flat b)→w.heap.size≤w1.heap.size→Calls Tryz.prog 157 #[.agg #[.int .i64 kk,.string ⟨#[]⟩,.int .i64 0],.slice (some ⟨g,0,none⟩) 2 ck] w1 (OutB w.heap.size res w1)) (hl:sz t≤400) :
    Calls Tryz.prog 96 #[v] w (OutB w.heap.size res w):=by
  have HK:Hid (∀ w1,Below w.heap.size w w1→Calls Tryz.prog 97 #[v] w1 (Rx.KidsOwn [flat a,flat b] w1)):=Lib.hid fun w1 hb=>by
    have h:=Rx.z3o v (flat t) w1 (hv.below hb) (by rw [flat_len]; omega);rw [hkids] at h;exact h
  have GO:=Lib.hid hgo;have HCM:=Lib.hid hcm;obtain ⟨bb,oo,cc,rfl,hc,hlt,hw,hat⟩:=z1w hv;obtain ⟨nn,hn⟩:∃ n,sz t=n+1:=⟨sz t-1,by have:=z0e t; omega⟩
  rw [hn] at hc HK ⊢;have g3:(1:Int)≤(nn:Int)+1:=by omega
  rw [hkd,hnm,hsg] at hw;obtain ⟨e0,e1,e2⟩:=hw w (Below.refl _ _);unfold OutB;clear hat hv hl hn hw hcm hgo hkids hkd hnm hsg
  go_enter Tryz.func96,Tryz.ntmps96
  go_upto_region 1 with fail
  go_cut [3,4] (fun s3 s4 wx=>∃ (B:Nat),s3=.pointer (some ⟨B,0,none⟩)∧w.heap.size≤B∧BoxN wx B kk 0 ⟨#[]⟩∧Kd w.heap.size B wx s4 [flat a,flat b]∧Below w.heap.size w wx)
  case first=>
    clear GO HCM
    go_region_with (first
      | (go_at_call 97
         (with_reducible refine (HK.out _ (Below.refl _ _).drew).mono ?_)
         rintro e w1 ⟨y,cs,rfl,hown,hk,hb1⟩;have B1:=Lib.hid ((Below.refl w.heap.size w).drew.trans hb1);have K1:Hid (Kd w.heap.size w1.heap.size w1 y [flat a,flat b]):=Lib.hid (y6j hown hk (.inr (Nat.le_refl _)));have c0:w1.cell? ⟨bb,oo,none⟩=some (.int .i64 kk):=by rw [B1.out.cell (p:=⟨bb,oo,none⟩) hlt]; exact e0
         have c1:w1.cell? ⟨bb,oo+1,none⟩=some (.string ⟨#[]⟩):=by rw [B1.out.cell (p:=⟨bb,oo+1,none⟩) hlt]; exact e1
         have c2:w1.cell? ⟨bb,oo+2,none⟩=some (.int .i64 0):=by rw [B1.out.cell (p:=⟨bb,oo+2,none⟩) hlt]; exact e2
         have hbl1:bb<w1.heap.size:=Ap.z0a c0;clear hown hk hb1)
      | (go_at_call 97
         (refine (HK.out _ ((Below.refl _ _).alloc (Nat.le_refl _) _).drew).mono ?_)
         rintro e w1 ⟨y,cs,rfl,hown,hk,hb1⟩;have B1:=Lib.hid (((Below.refl w.heap.size w).alloc (Nat.le_refl _) _).drew.trans (hb1.mono (by simp)));have KB:Hid (∀ u1 u2 u3:Value,Kd w.heap.size w.heap.size (((w1.setCell ⟨w.heap.size,0,none⟩ u1).setCell ⟨w.heap.size,1,none⟩ u2).setCell ⟨w.heap.size,2,none⟩ u3) y [flat a,flat b]):=Lib.hid fun u1 u2 u3=>((Kd.base (base':=w.heap.size) (B':=w.heap.size) (y6j (B:=w.heap.size) hown hk (.inl (by simp))) (by simp) (fun k h1 _ e=>by simp at h1; omega)).setB.setB).setB
         have k0:w1.cell? ⟨w.heap.size,0,none⟩=some (.int .i64 0):=by rw [hb1.cell (p:=⟨w.heap.size,0,none⟩) (by simp)]; simp [go_sem]
         have k1:w1.cell? ⟨w.heap.size,1,none⟩=some (.string ⟨#[]⟩):=by rw [hb1.cell (p:=⟨w.heap.size,1,none⟩) (by simp)]; simp [go_sem]
         have k2:w1.cell? ⟨w.heap.size,2,none⟩=some (.int .i64 0):=by rw [hb1.cell (p:=⟨w.heap.size,2,none⟩) (by simp)]; simp [go_sem]
         have f0:w1.frozen? ⟨w.heap.size,0,none⟩=false:=by rw [hb1.frozen (p:=⟨w.heap.size,0,none⟩) (by simp)]; simp [go_sem]
         have f1:w1.frozen? ⟨w.heap.size,1,none⟩=false:=by rw [hb1.frozen (p:=⟨w.heap.size,1,none⟩) (by simp)]; simp [go_sem]
         have f2:w1.frozen? ⟨w.heap.size,2,none⟩=false:=by rw [hb1.frozen (p:=⟨w.heap.size,2,none⟩) (by simp)]; simp [go_sem]
         have c0:w1.cell? ⟨bb,oo,none⟩=some (.int .i64 kk):=by rw [B1.out.cell (p:=⟨bb,oo,none⟩) hlt]; exact e0
         have c1:w1.cell? ⟨bb,oo+1,none⟩=some (.string ⟨#[]⟩):=by rw [B1.out.cell (p:=⟨bb,oo+1,none⟩) hlt]; exact e1
         have c2:w1.cell? ⟨bb,oo+2,none⟩=some (.int .i64 0):=by rw [B1.out.cell (p:=⟨bb,oo+2,none⟩) hlt]; exact e2
         have hbl1:bb<w1.heap.size:=Ap.z0a c0;clear hown hk hb1)
      | fail)
    all_goals go_wp2_with fail
    all_goals go_meet
    all_goals first
      | exact ⟨_,rfl,B1.out.size,⟨by simp,by simp,by simp⟩,K1.out.below (z0b _ _),B1.out.alloc B1.out.size _⟩
      | exact ⟨_,rfl,Nat.le_refl _,y4q k0 k1 k2,KB.out _ _ _,((B1.out.setCell (Nat.le_refl _) _).setCell (Nat.le_refl _) _).setCell (Nat.le_refl _) _⟩
  case rest=>
    obtain ⟨B,rfl,hB,hbx,hkd,hbel⟩:=hcut;have BB:=Lib.hid hbel;have BX:=Lib.hid hbx;have KK:=Lib.hid hkd;have HLB:=Lib.hid hB;obtain ⟨x0,x1,x2⟩:=hbx;clear hbel HK e0 e1 e2 hB;obtain ⟨g,ck,y0,y1,rfl,hg,hgB,hgl,hf,q0,q1,r0,r1⟩:=Kd.two hkd;clear hkd;go_wp2_with fail;refine (GO.out _).mono ?_;rintro e w0 ⟨rfl,rfl⟩;go_wp2_with fail;refine Go.wp_loop_rounds 2 ?_;rw [rounds_succ];go_wp2_with fail;refine (PA.out y0 wc (Ap.RdO.rd r0)).mono ?_;rintro e w1 ⟨z,rfl,hn,hb⟩;obtain ⟨_,az,cz,rfl,-⟩:=id hn;have hg1:g<w1.heap.size:=Nat.lt_of_lt_of_le hgl hb.size;have p0:w1.cell? ⟨g,0,none⟩=some y0:=by rw [hb.cell (p:=⟨g,0,none⟩) hgl]; exact q0
    have p1:w1.cell? ⟨g,1,none⟩=some y1:=by rw [hb.cell (p:=⟨g,1,none⟩) hgl]; exact q1
    have hf1:∀ j,w1.frozen? ⟨g,j,none⟩=false:=fun j=>by rw [hb.frozen (p:=⟨g,j,none⟩) hgl]; exact hf j
    have f0:=hf1 0;have HF1:=Lib.hid hf1;have X1:=Lib.hid (BX.out.below hb);have D1:=Lib.hid (BB.out.trans (hb.mono BB.out.size));have Z1:=Lib.hid hn;have Y1:=Lib.hid (Ap.RdO.below r1 hb);clear hn hb hf hf1;go_wp2_with fail;rw [rounds_succ];have D1s:=Lib.hid (D1.out.setCell (p:=⟨g,0,none⟩) (show w.heap.size≤g from hg) (.slice az (flat (S a)).length cz));have X1s:=Lib.hid (BoxN.set (o:=0) (x:=.slice az (flat (S a)).length cz) X1.out (Ne.symm hgB));obtain ⟨v0,v1,v2⟩:=X1s.out;have ZS:Hid (NdO w.heap.size (w1.setCell ⟨g,0,none⟩ (.slice az (flat (S a)).length cz)) (.slice az (flat (S a)).length cz) (S a)):=Lib.hid (NdO.more (z2r Z1.out fun k hk=>by omega) (Nat.le_trans HLB.out (Nat.le_of_lt BX.out.lt)));have s0:=z0p (x:=.slice az (flat (S a)).length cz) p0;have s1:=(z0v (g:=g) (x:=.slice az (flat (S a)).length cz) (show 0≠1 by decide)).trans p1;have YS:=Lib.hid (Ap.RdO.rd (z2r (o:=0) (x:=.slice az (flat (S a)).length cz) Y1.out fun k hk=>hk.2.2));go_wp2_with fail;unfold OutB at HCM;refine (HCM.out g ck _ _ _ s0 s1 ZS.out YS.out D1s.out.size).mono ?_;rintro e w3 ⟨u,rfl,hn,hb⟩;have N3:=Lib.hid hn;have D3:=Lib.hid (D1s.out.trans (hb.mono D1s.out.size));clear hn hb;go_wp2_with fail;go_ret;exact ⟨_,rfl,N3.out,D3.out⟩
theorem y8f (a b:Tm) (v:Value) (w:World) (hv:Nds w v (flat (.seq a b))) (PA:Hid (PS a)) (PB:Hid (PS b)) (hl:sz (.seq a b)≤400) :
    Calls Tryz.prog 96 #[v] w (OutB w.heap.size (sSeq S (S a) b) w):=
  z2m (.seq a b) a b (sSeq S (S a) b) 5 (z5c a b) rfl rfl rfl (fun w=>z1j (.seq a b) w) v w hv PA (fun g ck y0 y1 w1 s0 s1 ZS YS hb=>v3o w.heap.size (S a) b g ck y0 y1 w1 s0 s1 ZS YS PB hb (by have:=S_sz a; simp only [sz] at *; omega)) hl
theorem y5p (a b:Tm) (v:Value) (w:World) (hv:Nds w v (flat (.hand a b))) (PA:Hid (PS a)) (PB:Hid (PS b)) (hx:Hid (kd (S a)≠14)) (hl:sz (.hand a b)≤400) :
    Calls Tryz.prog 96 #[v] w (OutB w.heap.size (sHand S (S a) b) w):=
  z2m (.hand a b) a b (sHand S (S a) b) 8 (z3m a b) rfl rfl rfl (fun w=>z1j (.hand a b) w) v w hv PA (fun g ck y0 y1 w1 s0 s1 ZS YS hb=>x6q w.heap.size (S a) b g ck y0 y1 w1 s0 s1 ZS YS PB hx hb (by have:=S_sz a; simp only [sz] at *; omega)) hl
theorem y2u (a b:Tm) (v:Value) (w:World) (hv:Nds w v (flat (.going a b))) (PA:Hid (PS a)) (hl:sz (.going a b)≤400) :
    Calls Tryz.prog 96 #[v] w (OutB w.heap.size (sGoing (S a) b) w):=
  z2m (.going a b) a b (sGoing (S a) b) 12 (z2o a b) rfl rfl rfl (fun w=>z1j (.going a b) w) v w hv PA (fun g ck y0 y1 w1 s0 s1 ZS YS hb=>x0p w.heap.size (S a) b g ck y0 y1 w1 s0 s1 ZS YS hb (by have:=S_sz a; simp only [sz] at *; omega)) hl
theorem y2t (a b:Tm) (v:Value) (w:World) (hv:Nds w v (flat (.stack a b))) (PA:Hid (PS a)) (hl:sz (.stack a b)≤400) :
    Calls Tryz.prog 96 #[v] w (OutB w.heap.size (stk (S a) b) w):=
  z2m (.stack a b) a b (stk (S a) b) 13 (z2n a b) rfl rfl rfl (fun w=>z1j (.stack a b) w) v w hv PA (fun g ck y0 y1 w1 s0 s1 ZS YS hb=>x0o w.heap.size (S a) b g ck y0 y1 w1 s0 s1 ZS YS hb (by have:=S_sz a; simp only [sz] at *; omega)) hl
end Se
end Go.Proofs.YtpingbiibbmcaaaGreatDoor
namespace Go.Proofs.YtpingbiibbmcaaaGreatDoor.Pl
open Go Go.RowKit Rw YtpingbiibbmcaaaGreatDoor.So Ro
set_option maxRecDepth 20000
theorem z7j (W:World) (v:Value) (t:TypeId):(W.alloc (.cells #[v] t)).cell? ⟨W.heap.size,0,none⟩=some v∧(W.alloc (.cells #[v] t)).frozen? ⟨W.heap.size,0,none⟩=false:=by
  constructor <;> simp
theorem x0v {W:World} {a:Addr} {v:Value} (o:Obj) (h:W.cell? a=some v∧W.frozen? a=false):(W.alloc o).cell? a=some v∧(W.alloc o).frozen? a=false:=by
  have hb:=z0b W o;exact ⟨by rw [hb.cell (Ap.z0a h.1)]; exact h.1,by rw [World.frozen?_of_block (hb.block _ (Ap.z0a h.1))]; exact h.2⟩
def Cxs (w:World) (v:Value) (P:List (Nat × Nat)):Prop:=Ap.Rd w 1 v P.length (P.map cx)
theorem y7y {M:Nat→Prop} {w w':World} {p:Addr} {u:Value} (ht:Turn M w w') (hc:w.cell? p=some u) (hn:¬ M p.block):w'.frozen? p=w.frozen? p:=
  World.frozen?_of_block (ht.block _ (Ap.z0a hc) hn)
def New1 (A:World) (v u:Value) (w:World):Prop:=∃ g,v=.slice (some ⟨g,0,none⟩) 1 1∧A.heap.size≤g∧w.cell? ⟨g,0,none⟩=some u
theorem x8p {l:List Nd} {k:Nat} (h:k<rounds l):k<l.length:=by
  unfold rounds at h
  split at h
  · exact h
  · omega
/-! ### Points: a point laid onto the row -/
def Mg (vp:Value) (bp:Nat) (i t:Nat):Prop:=(i=6∧vp.ownBlock=some t)∨(i=7∧t=bp)
def Bg (A:World) (vp:Value) (bp bx:Nat) (x:Nat) (w:World):Prop:=w.cell? ⟨bx,0,none⟩=some (.int .i64 (x:Int))∧Turn (fun t=>vp.ownBlock=some t∨t=bp) A w
structure SepG (q:Nat) (A:World) (vp:Value) (bp bx:Nat):Prop where
  hp:∀ g,vp.ownBlock=some g→q≤g∧g<A.heap.size
  hbp:bp<q
  hbx:bx<q
  hne:bx≠bp
  hq:q≤A.heap.size
section
variable {q:Nat} {A:World} {vp va:Value} {bp bx:Nat} {x n:Nat} {P:List (Nat × Nat)}
end
/-! ### One more leaf or not,laid into its box -/
def Ml (bx:Nat) (i t:Nat):Prop:=i=7∧t=bx
def Rl (v:Value) (b p bx:Nat) (x k:Nat) (y:Nd) (i:Nat) (u:Value) (w:World):Prop:=match i with
  | 0=>u=.int .i64 (x:Int)
  | 1=>u=v
  | 2=>u=.int .i64 (k:Int)
  | 3=>u=.pointer (some ⟨b,p,none⟩)
  | 4=>u=.agg #[.int .i64 y.k,.string y.n,.int .i64 y.s]
  | 5=>u=.int .i64 (lf y:Nat)
  | 6=>u=.int .i64 ((x+lf y:Nat):Int)
  | 7=>w.cell? ⟨bx,0,none⟩=some (.int .i64 ((x+lf y:Nat):Int))∧w.frozen? ⟨bx,0,none⟩=false
  | _=>True
def Nl (bx x:Nat) (i:Nat) (w:World):Prop:=match i with
  | 0=>w.cell? ⟨bx,0,none⟩=some (.int .i64 (x:Int))
  | 7=>w.cell? ⟨bx,0,none⟩=some (.int .i64 (x:Int))∧w.frozen? ⟨bx,0,none⟩=false
  | _=>True
def tabL:List (List Nat):=[[],[],[],[1,2],[1,2,3],[1,2,3,4],[0,1,2,3,4,5],[0,1,2,3,4,5,6]]
section
variable {v:Value} {b p bx x k:Nat} {y:Nd} {A:World}
end
end Go.Proofs.YtpingbiibbmcaaaGreatDoor.Pl
namespace Go.Proofs.YtpingbiibbmcaaaGreatDoor
namespace Mn
open Go Go.RowKit Tr
abbrev none':Nat→Prop:=fun _=>False
theorem so_imp {ok ok':Nat→Prop} {w:World} {v:Value} {l:List ByteArray} (h:StrsO ok w v l) (hi:∀ b,b<w.heap.size→ok b→ok' b):StrsO ok' w v l:=Ap.RdO.imp h hi
theorem x8d (ok:Nat→Prop) (w:World):StrsO ok w (.slice none 0 0) []:=⟨rfl,none,0,rfl,Nat.le_refl _,fun _=>⟨rfl,rfl⟩,fun h=>absurd h (Nat.lt_irrefl _)⟩
theorem ts_one {ok:Nat→Prop} {w:World} {B:Nat} {a:Value} {t:Tr} (h0:w.cell? ⟨B,0,none⟩=some a) (h1:w.cell? ⟨B,1,none⟩=some (.int .i64 t.e)) (hB:ok B) (hs:StrsO ok w a t.a):TsO ok w (.slice (some ⟨B,0,none⟩) 1 1) [t]:=by
  refine ⟨[a,.int .i64 t.e],⟨rfl,_,1,rfl,Nat.le_refl _,fun h=>(by cases h),fun _=>⟨B,0,rfl,hB,Ap.z0a h0,fun j u hu=>?_⟩⟩,Cl.one ⟨a,rfl,hs⟩ rfl⟩
  match j,hu with
  | 0,hu=>simp at hu; subst hu; exact h0
  | 1,hu=>simp at hu; subst hu; exact h1
  | j+2,hu=>simp at hu
theorem bel1 (w:World) (x:Obj):Below w.heap.size w (w.alloc x):=(Below.refl _ _).alloc (Nat.le_refl _) x
end Mn
namespace Se
open Go Go.RowKit Rw YtpingbiibbmcaaaGreatDoor.So
theorem y2v (a:Tm) (v:Value) (w:World) (hv:Nds w v (flat (.block a))) (PA:Hid (PS a)) (hx:Hid (∀ s c,S a=.fin s c→PS c)) (hl:sz (.block a)≤400) :
    Calls Tryz.prog 96 #[v] w (OutB w.heap.size (sBlock S (S a)) w):=by
  have HK:Hid (∀ w1,Below w.heap.size w w1→Calls Tryz.prog 97 #[v] w1 (Rx.KidsOwn [flat a] w1)):=Lib.hid fun w1 hb=>by
    have h:=Rx.z3o v (flat (.block a)) w1 (hv.below hb) (by rw [flat_len]; omega);rw [show kids (flat (.block a))=[flat a] from z3n a] at h;exact h
  have GO:Hid (∀ w,Calls Tryz.prog 156 #[.int .i64 9] w fun e w'=>e=.returned (.int .i64 1)∧w=w'):=Lib.hid fun w=>z1j (.block a) w
  have HL:Hid (sz (.block a)≤400):=Lib.hid hl;obtain ⟨bb,oo,cc,rfl,hc,hlt,hw,hat⟩:=z1w hv;obtain ⟨nn,hn⟩:∃ n,sz (.block a)=n+1:=⟨sz (.block a)-1,by have:=z0e (.block a); omega⟩
  rw [hn] at hc HK ⊢;have g3:(1:Int)≤(nn:Int)+1:=by omega
  rw [show kd (.block a)=9 from rfl,show nmT (.block a)=⟨#[]⟩ from rfl,show sg (.block a)=0 from rfl] at hw;obtain ⟨e0,e1,e2⟩:=hw w (Below.refl _ _);unfold OutB;clear hat hv hl hn hw
  go_enter Tryz.func96,Tryz.ntmps96
  go_upto_region 1 with fail
  go_cut [3,4] (fun s3 s4 wx=>∃ (B:Nat),s3=.pointer (some ⟨B,0,none⟩)∧w.heap.size≤B∧BoxN wx B 9 0 ⟨#[]⟩∧Kd w.heap.size B wx s4 [flat a]∧Below w.heap.size w wx)
  case first=>
    clear GO HL
    go_region_with (first
      | (go_at_call 97
         (with_reducible refine (HK.out _ (Below.refl _ _).drew).mono ?_)
         rintro e w1 ⟨y,cs,rfl,hown,hk,hb1⟩;have B1:=Lib.hid ((Below.refl w.heap.size w).drew.trans hb1);have K1:Hid (Kd w.heap.size w1.heap.size w1 y [flat a]):=Lib.hid (y6j hown hk (.inr (Nat.le_refl _)));have c0:w1.cell? ⟨bb,oo,none⟩=some (.int .i64 9):=by rw [B1.out.cell (p:=⟨bb,oo,none⟩) hlt]; exact e0
         have c1:w1.cell? ⟨bb,oo+1,none⟩=some (.string ⟨#[]⟩):=by rw [B1.out.cell (p:=⟨bb,oo+1,none⟩) hlt]; exact e1
         have c2:w1.cell? ⟨bb,oo+2,none⟩=some (.int .i64 0):=by rw [B1.out.cell (p:=⟨bb,oo+2,none⟩) hlt]; exact e2
         have hbl1:bb<w1.heap.size:=Ap.z0a c0;clear hown hk hb1)
      | (go_at_call 97
         (refine (HK.out _ ((Below.refl _ _).alloc (Nat.le_refl _) _).drew).mono ?_)
         rintro e w1 ⟨y,cs,rfl,hown,hk,hb1⟩;have B1:=Lib.hid (((Below.refl w.heap.size w).alloc (Nat.le_refl _) _).drew.trans (hb1.mono (by simp)));have KB:Hid (∀ u1 u2 u3:Value,Kd w.heap.size w.heap.size (((w1.setCell ⟨w.heap.size,0,none⟩ u1).setCell ⟨w.heap.size,1,none⟩ u2).setCell ⟨w.heap.size,2,none⟩ u3) y [flat a]):=Lib.hid fun u1 u2 u3=>((Kd.base (base':=w.heap.size) (B':=w.heap.size) (y6j (B:=w.heap.size) hown hk (.inl (by simp))) (by simp) (fun k h1 _ e=>by simp at h1; omega)).setB.setB).setB
         have k0:w1.cell? ⟨w.heap.size,0,none⟩=some (.int .i64 0):=by rw [hb1.cell (p:=⟨w.heap.size,0,none⟩) (by simp)]; simp [go_sem]
         have k1:w1.cell? ⟨w.heap.size,1,none⟩=some (.string ⟨#[]⟩):=by rw [hb1.cell (p:=⟨w.heap.size,1,none⟩) (by simp)]; simp [go_sem]
         have k2:w1.cell? ⟨w.heap.size,2,none⟩=some (.int .i64 0):=by rw [hb1.cell (p:=⟨w.heap.size,2,none⟩) (by simp)]; simp [go_sem]
         have f0:w1.frozen? ⟨w.heap.size,0,none⟩=false:=by rw [hb1.frozen (p:=⟨w.heap.size,0,none⟩) (by simp)]; simp [go_sem]
         have f1:w1.frozen? ⟨w.heap.size,1,none⟩=false:=by rw [hb1.frozen (p:=⟨w.heap.size,1,none⟩) (by simp)]; simp [go_sem]
         have f2:w1.frozen? ⟨w.heap.size,2,none⟩=false:=by rw [hb1.frozen (p:=⟨w.heap.size,2,none⟩) (by simp)]; simp [go_sem]
         have c0:w1.cell? ⟨bb,oo,none⟩=some (.int .i64 9):=by rw [B1.out.cell (p:=⟨bb,oo,none⟩) hlt]; exact e0
         have c1:w1.cell? ⟨bb,oo+1,none⟩=some (.string ⟨#[]⟩):=by rw [B1.out.cell (p:=⟨bb,oo+1,none⟩) hlt]; exact e1
         have c2:w1.cell? ⟨bb,oo+2,none⟩=some (.int .i64 0):=by rw [B1.out.cell (p:=⟨bb,oo+2,none⟩) hlt]; exact e2
         have hbl1:bb<w1.heap.size:=Ap.z0a c0;clear hown hk hb1)
      | fail)
    all_goals go_wp2_with fail
    all_goals go_meet
    all_goals first
      | exact ⟨_,rfl,B1.out.size,⟨by simp,by simp,by simp⟩,K1.out.below (z0b _ _),B1.out.alloc B1.out.size _⟩
      | exact ⟨_,rfl,Nat.le_refl _,y4q k0 k1 k2,KB.out _ _ _,((B1.out.setCell (Nat.le_refl _) _).setCell (Nat.le_refl _) _).setCell (Nat.le_refl _) _⟩
  case rest=>
    obtain ⟨B,rfl,hB,hbx,hkd,hbel⟩:=hcut;have BB:=Lib.hid hbel;have BX:=Lib.hid hbx;have KK:=Lib.hid hkd;have HLB:=Lib.hid hB;obtain ⟨x0,x1,x2⟩:=hbx;clear hbel HK e0 e1 e2 hB;obtain ⟨g,ck,y0,rfl,hg,hgB,hgl,hf,q0,r0⟩:=Kd.one hkd;clear hkd;go_wp2_with fail;refine (GO.out _).mono ?_;rintro e w0 ⟨rfl,rfl⟩;go_wp2_with fail;refine Go.wp_loop_rounds 2 ?_;rw [rounds_succ];go_wp2_with fail;refine (PA.out y0 wc (Ap.RdO.rd r0)).mono ?_;rintro e w1 ⟨z,rfl,hn,hb⟩;obtain ⟨_,az,cz,rfl,-⟩:=id hn;have hg1:g<w1.heap.size:=Nat.lt_of_lt_of_le hgl hb.size;have p0:w1.cell? ⟨g,0,none⟩=some y0:=by rw [hb.cell (p:=⟨g,0,none⟩) hgl]; exact q0
    have hf1:∀ j,w1.frozen? ⟨g,j,none⟩=false:=fun j=>by rw [hb.frozen (p:=⟨g,j,none⟩) hgl]; exact hf j
    have f0:=hf1 0;have HF1:=Lib.hid hf1;have X1:=Lib.hid (BX.out.below hb);have D1:=Lib.hid (BB.out.trans (hb.mono BB.out.size));have Z1:=Lib.hid hn;clear hn hb hf hf1;go_wp2_with fail;rw [rounds_succ];have D1s:=Lib.hid (D1.out.setCell (p:=⟨g,0,none⟩) (show w.heap.size≤g from hg) (.slice az (flat (S a)).length cz));have X1s:=Lib.hid (BoxN.set (o:=0) (x:=.slice az (flat (S a)).length cz) X1.out (Ne.symm hgB));obtain ⟨v0,v1,v2⟩:=X1s.out;have ZS:Hid (NdO w.heap.size (w1.setCell ⟨g,0,none⟩ (.slice az (flat (S a)).length cz)) (.slice az (flat (S a)).length cz) (S a)):=Lib.hid (NdO.more (z2r Z1.out fun k hk=>by omega) (Nat.le_trans HLB.out (Nat.le_of_lt BX.out.lt)));have s0:=z0p (x:=.slice az (flat (S a)).length cz) p0;go_wp2_with fail;refine (x0q w.heap.size (S a) g ck _ _ s0 ZS.out.nds hx D1s.out.size (by have:=HL.out; have:=S_sz a; simp only [sz] at *; omega)).mono ?_;rintro e w3 ⟨u,rfl,hn,hb⟩;have N3:=Lib.hid hn;have D3:=Lib.hid (D1s.out.trans (hb.mono D1s.out.size));clear hn hb;go_wp2_with fail;go_ret;exact ⟨_,rfl,N3.out,D3.out⟩
theorem y8g (a b:Tm) (v:Value) (w:World) (hv:Nds w v (flat (.par a b))) (PA:Hid (PS a)) (PB:Hid (PS b)) (hl:sz (.par a b)≤400) :
    Calls Tryz.prog 96 #[v] w (OutB w.heap.size (sPar (S a) (S b)) w):=by
  have HK:Hid (∀ w1,Below w.heap.size w w1→Calls Tryz.prog 97 #[v] w1 (Rx.KidsOwn [flat a,flat b] w1)):=Lib.hid fun w1 hb=>by
    have h:=Rx.z3o v (flat (.par a b)) w1 (hv.below hb) (by rw [flat_len]; omega);rw [show kids (flat (.par a b))=[flat a,flat b] from z5d a b] at h;exact h
  have GO:Hid (∀ w,Calls Tryz.prog 156 #[.int .i64 7] w fun e w'=>e=.returned (.int .i64 2)∧w=w'):=Lib.hid fun w=>z1j (.par a b) w
  have HL:Hid (sz (.par a b)≤400):=Lib.hid hl;obtain ⟨bb,oo,cc,rfl,hc,hlt,hw,hat⟩:=z1w hv;obtain ⟨nn,hn⟩:∃ n,sz (.par a b)=n+1:=⟨sz (.par a b)-1,by have:=z0e (.par a b); omega⟩
  rw [hn] at hc HK ⊢;have g3:(1:Int)≤(nn:Int)+1:=by omega
  rw [show kd (.par a b)=7 from rfl,show nmT (.par a b)=⟨#[]⟩ from rfl,show sg (.par a b)=0 from rfl] at hw;obtain ⟨e0,e1,e2⟩:=hw w (Below.refl _ _);unfold OutB;clear hat hv hl hn hw
  go_enter Tryz.func96,Tryz.ntmps96
  go_upto_region 1 with fail
  go_cut [3,4] (fun s3 s4 wx=>∃ (B:Nat),s3=.pointer (some ⟨B,0,none⟩)∧w.heap.size≤B∧BoxN wx B 7 0 ⟨#[]⟩∧Kd w.heap.size B wx s4 [flat a,flat b]∧Below w.heap.size w wx)
  case first=>
    clear GO HL
    go_region_with (first
      | (go_at_call 97
         (with_reducible refine (HK.out _ (Below.refl _ _).drew).mono ?_)
         rintro e w1 ⟨y,cs,rfl,hown,hk,hb1⟩;have B1:=Lib.hid ((Below.refl w.heap.size w).drew.trans hb1);have K1:Hid (Kd w.heap.size w1.heap.size w1 y [flat a,flat b]):=Lib.hid (y6j hown hk (.inr (Nat.le_refl _)));have c0:w1.cell? ⟨bb,oo,none⟩=some (.int .i64 7):=by rw [B1.out.cell (p:=⟨bb,oo,none⟩) hlt]; exact e0
         have c1:w1.cell? ⟨bb,oo+1,none⟩=some (.string ⟨#[]⟩):=by rw [B1.out.cell (p:=⟨bb,oo+1,none⟩) hlt]; exact e1
         have c2:w1.cell? ⟨bb,oo+2,none⟩=some (.int .i64 0):=by rw [B1.out.cell (p:=⟨bb,oo+2,none⟩) hlt]; exact e2
         have hbl1:bb<w1.heap.size:=Ap.z0a c0;clear hown hk hb1)
      | (go_at_call 97
         (refine (HK.out _ ((Below.refl _ _).alloc (Nat.le_refl _) _).drew).mono ?_)
         rintro e w1 ⟨y,cs,rfl,hown,hk,hb1⟩;have B1:=Lib.hid (((Below.refl w.heap.size w).alloc (Nat.le_refl _) _).drew.trans (hb1.mono (by simp)));have KB:Hid (∀ u1 u2 u3:Value,Kd w.heap.size w.heap.size (((w1.setCell ⟨w.heap.size,0,none⟩ u1).setCell ⟨w.heap.size,1,none⟩ u2).setCell ⟨w.heap.size,2,none⟩ u3) y [flat a,flat b]):=Lib.hid fun u1 u2 u3=>((Kd.base (base':=w.heap.size) (B':=w.heap.size) (y6j (B:=w.heap.size) hown hk (.inl (by simp))) (by simp) (fun k h1 _ e=>by simp at h1; omega)).setB.setB).setB
         have k0:w1.cell? ⟨w.heap.size,0,none⟩=some (.int .i64 0):=by rw [hb1.cell (p:=⟨w.heap.size,0,none⟩) (by simp)]; simp [go_sem]
         have k1:w1.cell? ⟨w.heap.size,1,none⟩=some (.string ⟨#[]⟩):=by rw [hb1.cell (p:=⟨w.heap.size,1,none⟩) (by simp)]; simp [go_sem]
         have k2:w1.cell? ⟨w.heap.size,2,none⟩=some (.int .i64 0):=by rw [hb1.cell (p:=⟨w.heap.size,2,none⟩) (by simp)]; simp [go_sem]
         have f0:w1.frozen? ⟨w.heap.size,0,none⟩=false:=by rw [hb1.frozen (p:=⟨w.heap.size,0,none⟩) (by simp)]; simp [go_sem]
         have f1:w1.frozen? ⟨w.heap.size,1,none⟩=false:=by rw [hb1.frozen (p:=⟨w.heap.size,1,none⟩) (by simp)]; simp [go_sem]
         have f2:w1.frozen? ⟨w.heap.size,2,none⟩=false:=by rw [hb1.frozen (p:=⟨w.heap.size,2,none⟩) (by simp)]; simp [go_sem]
         have c0:w1.cell? ⟨bb,oo,none⟩=some (.int .i64 7):=by rw [B1.out.cell (p:=⟨bb,oo,none⟩) hlt]; exact e0
         have c1:w1.cell? ⟨bb,oo+1,none⟩=some (.string ⟨#[]⟩):=by rw [B1.out.cell (p:=⟨bb,oo+1,none⟩) hlt]; exact e1
         have c2:w1.cell? ⟨bb,oo+2,none⟩=some (.int .i64 0):=by rw [B1.out.cell (p:=⟨bb,oo+2,none⟩) hlt]; exact e2
         have hbl1:bb<w1.heap.size:=Ap.z0a c0;clear hown hk hb1)
      | fail)
    all_goals go_wp2_with fail
    all_goals go_meet
    all_goals first
      | exact ⟨_,rfl,B1.out.size,⟨by simp,by simp,by simp⟩,K1.out.below (z0b _ _),B1.out.alloc B1.out.size _⟩
      | exact ⟨_,rfl,Nat.le_refl _,y4q k0 k1 k2,KB.out _ _ _,((B1.out.setCell (Nat.le_refl _) _).setCell (Nat.le_refl _) _).setCell (Nat.le_refl _) _⟩
  case rest=>
    obtain ⟨B,rfl,hB,hbx,hkd,hbel⟩:=hcut;have BB:=Lib.hid hbel;have BX:=Lib.hid hbx;have KK:=Lib.hid hkd;have HLB:=Lib.hid hB;obtain ⟨x0,x1,x2⟩:=hbx;clear hbel HK e0 e1 e2 hB;obtain ⟨g,ck,y0,y1,rfl,hg,hgB,hgl,hf,q0,q1,r0,r1⟩:=Kd.two hkd;clear hkd;go_wp2_with fail;refine (GO.out _).mono ?_;rintro e w0 ⟨rfl,rfl⟩;go_wp2_with fail;refine Go.wp_loop_rounds 3 ?_;rw [rounds_succ];go_wp2_with fail;refine (PA.out y0 wc (Ap.RdO.rd r0)).mono ?_;rintro e w1 ⟨z,rfl,hn,hb⟩;obtain ⟨_,az,cz,rfl,-⟩:=id hn;have hg1:g<w1.heap.size:=Nat.lt_of_lt_of_le hgl hb.size;have p0:w1.cell? ⟨g,0,none⟩=some y0:=by rw [hb.cell (p:=⟨g,0,none⟩) hgl]; exact q0
    have p1:w1.cell? ⟨g,1,none⟩=some y1:=by rw [hb.cell (p:=⟨g,1,none⟩) hgl]; exact q1
    have hf1:∀ j,w1.frozen? ⟨g,j,none⟩=false:=fun j=>by rw [hb.frozen (p:=⟨g,j,none⟩) hgl]; exact hf j
    have f0:=hf1 0;have HF1:=Lib.hid hf1;have X1:=Lib.hid (BX.out.below hb);have D1:=Lib.hid (BB.out.trans (hb.mono BB.out.size));have Z1:=Lib.hid hn;have Y1:=Lib.hid (Ap.RdO.below r1 hb);clear hn hb hf hf1;go_wp2_with fail;rw [rounds_succ];have D1s:=Lib.hid (D1.out.setCell (p:=⟨g,0,none⟩) (show w.heap.size≤g from hg) (.slice az (flat (S a)).length cz));have X1s:=Lib.hid (BoxN.set (o:=0) (x:=(.slice az (flat (S a)).length cz)) X1.out (Ne.symm hgB));have ZS:Hid (NdO w.heap.size (w1.setCell ⟨g,0,none⟩ (.slice az (flat (S a)).length cz)) (.slice az (flat (S a)).length cz) (S a)):=Lib.hid (NdO.more (z2r Z1.out fun k hk=>by omega) (Nat.le_trans HLB.out (Nat.le_of_lt BX.out.lt)));have ZG:Hid (Ap.RdO (fun k=>wc.heap.size≤k) (w1.setCell ⟨g,0,none⟩ (.slice az (flat (S a)).length cz)) 3 (.slice az (flat (S a)).length cz) (flat (S a)).length (cls (flat (S a)))):=Lib.hid (z2r Z1.out fun k hk=>by omega);have s0:=z0p (x:=(.slice az (flat (S a)).length cz)) p0;have s1:=(z0v (g:=g) (x:=(.slice az (flat (S a)).length cz)) (show 0≠1 by decide)).trans p1;have YS:=Lib.hid (Ap.RdO.rd (z2r (o:=0) (x:=(.slice az (flat (S a)).length cz)) Y1.out fun k hk=>hk.2.2));have hg2:g<(w1.setCell ⟨g,0,none⟩ (.slice az (flat (S a)).length cz)).heap.size:=Ap.z0a s0;have hf2:∀ j,(w1.setCell ⟨g,0,none⟩ (.slice az (flat (S a)).length cz)).frozen? ⟨g,j,none⟩=false:=fun j=>by rw [z2p]; exact HF1.out j
    go_wp2_with fail;refine (PB.out y1 _ YS.out).mono ?_;generalize w1.setCell ⟨g,0,none⟩ (.slice az (flat (S a)).length cz)=W1 at D1s X1s ZS ZG s0 s1 YS hg2 hf2 ⊢;rintro e w2 ⟨z',rfl,hn,hb⟩;obtain ⟨_,az',cz',rfl,-⟩:=id hn;have t0:w2.cell? ⟨g,0,none⟩=some (.slice az (flat (S a)).length cz):=by rw [hb.cell (p:=⟨g,0,none⟩) hg2]; exact s0
    have t1:w2.cell? ⟨g,1,none⟩=some y1:=by rw [hb.cell (p:=⟨g,1,none⟩) hg2]; exact s1
    have hf3:w2.frozen? ⟨g,1,none⟩=false:=by rw [hb.frozen (p:=⟨g,1,none⟩) hg2]; exact hf2 1
    have X2:=Lib.hid (BoxN.set (o:=1) (x:=.slice az' (flat (S b)).length cz') (X1s.out.below hb) (Ne.symm hgB));have D2:=Lib.hid ((D1s.out.trans (hb.mono D1s.out.size)).setCell (p:=⟨g,1,none⟩) (show w.heap.size≤g from hg) (.slice az' (flat (S b)).length cz'));have ZS2:Hid (NdO w.heap.size (w2.setCell ⟨g,1,none⟩ (.slice az' (flat (S b)).length cz')) (.slice az (flat (S a)).length cz) (S a)):=Lib.hid (Ap.RdO.imp (z2r (ZG.out.below hb) fun k hk=>by omega) fun k _ hk=>Nat.le_trans HLB.out (Nat.le_trans (Nat.le_of_lt BX.out.lt) hk));have ZT2:=Lib.hid (Ap.RdO.rd (z2r (o:=1) (g:=g) (x:=.slice az' (flat (S b)).length cz') hn fun k hk=>by omega));have u0:=(z0v (g:=g) (x:=.slice az' (flat (S b)).length cz') (show 1≠0 by decide)).trans t0;have u1:=z0p (x:=.slice az' (flat (S b)).length cz') t1;clear hn hb hf2 s0 s1;go_wp2_with fail;rw [rounds_succ];obtain ⟨v0,v1,v2⟩:=X2.out;go_wp2_with fail;refine (v3p w.heap.size (S a) (S b) g ck _ _ _ u0 u1 ZS2.out ZT2.out D2.out.size (by have:=HL.out; have:=S_sz a; have:=S_sz b; simp only [sz] at *; omega)).mono ?_;rintro e w3 ⟨u,rfl,hn,hb⟩;have N3:=Lib.hid hn;have D3:=Lib.hid (D2.out.trans (hb.mono D2.out.size));clear hn hb;go_wp2_with fail;go_ret;exact ⟨_,rfl,N3.out,D3.out⟩
theorem y5r:∀ t:Tm,sz t≤400→(is t 3=true∨is t 4=true)→PS t:=by
  apply y7t
  intro t ih hl hi v w hv
  cases t with
  | act s=>exact y8j s v w hv hl
  | skip=>exact y5m v w hv hl
  | throw=>exact y2s v w hv hl
  | yield=>exact y2r v w hv hl
  | over s=>exact y5o s v w hv hl
  | fin s c=>exact y8h s c v w hv hl
  | alt a b=>exact y8i a b v w hv hl
  | pair a b=>exact y5n a b v w hv hl
  | seq a b=>
    have hz:sz (.seq a b)=sz a+sz b+1:=rfl;have ia:is a 3=true∨is a 4=true:=by simp [is] at hi; exact hi.imp (·.1) (·.1)
    have ib:is b 3=true∨is b 4=true:=by simp [is] at hi; exact hi.imp (fun h=>(is13 b).1 h.2) (fun h=>(is13 b).2 h.2)
    rw [y4x];exact y8f a b v w hv (Lib.hid (ih a (by omega) (by omega) ia)) (Lib.hid (ih b (by omega) (by omega) ib)) hl
  | hand a b=>
    have hz:sz (.hand a b)=sz a+sz b+1:=rfl;have h3:is a 3=true∧is b 1=true:=by simpa [is] using hi
    rw [z6r];exact y5p a b v w hv (Lib.hid (ih a (by omega) (by omega) (.inl h3.1))) (Lib.hid (ih b (by omega) (by omega) (.inl ((is13 b).1 h3.2)))) (Lib.hid (not14 ((S_is a).1 h3.1))) hl
  | going a b=>
    have hz:sz (.going a b)=sz a+sz b+1:=rfl;have h3:is a 3=true∧is b 1=true:=by simpa [is] using hi
    rw [z4e];exact y2u a b v w hv (Lib.hid (ih a (by omega) (by omega) (.inl h3.1))) hl
  | stack a b=>
    have hz:sz (.stack a b)=sz a+sz b+1:=rfl;have h3:is a 4=true∧is b 1=true:=by simpa [is] using hi
    rw [z4d];exact y2t a b v w hv (Lib.hid (ih a (by omega) (by omega) (.inr h3.1))) hl
  | par a b=>
    have hz:sz (.par a b)=sz a+sz b+1:=rfl;have ia:is a 3=true∨is a 4=true:=by simp [is] at hi; exact hi.imp (·.1) (·.1)
    have ib:is b 3=true∨is b 4=true:=by simp [is] at hi; exact hi.imp (·.2) (·.2)
    rw [y4y];exact y8g a b v w hv (Lib.hid (ih a (by omega) (by omega) ia)) (Lib.hid (ih b (by omega) (by omega) ib)) hl
  | block a=>
    have hz:sz (.block a)=sz a+1:=rfl;have h4:is a 4=true:=by simpa [is] using hi
    rw [z4f];refine y2v a v w hv (Lib.hid (ih a (by omega) (by omega) (.inr h4))) (Lib.hid fun s c e=>?_) hl;have h5:=(S_is a).2 h4;have h6:=S_sz a;rw [e] at h5 h6;simp [is] at h5;simp only [sz] at h6;exact ih c (by omega) (by omega) (.inl ((is13 c).1 h5))
end Se
end Go.Proofs.YtpingbiibbmcaaaGreatDoor
