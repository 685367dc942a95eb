/- The program's settled: the walks (Seq, Hand, Going). The program's nodes, and what it promises to whoever ranges over it. -/
import Derived.Test.YtaapnkoooofalaaGreatQ19
import Derived.Deep.DeepCutAuto
import Derived.Test.YtaapnkoooofalaaGreatQ20

namespace Go.Proofs.YtaapnkoooofalaaGreat.Se
open Go Go.RowKit Rw So
set_option maxRecDepth 20000
set_option maxHeartbeats 4000000 in
theorem settled_seq (a b:Tm) (v:Value) (w:World) (hv:Nds w v (flat (.seq a b))) (PA:Hid (PS a)) (PB:Hid (PS b)) (hl:sz (.seq a b)≤400) :
    Calls Tryz.prog 64 #[v] w (OutB w.heap.size (sSeq S (S a) b) w):=by
  have HK:Hid (∀ w1,Below w.heap.size w w1→Calls Tryz.prog 50 #[v] w1 (Rx.KidsOwn [flat a,flat b] w1)):=Lib.hid fun w1 hb=>by
    have h:=Rx.kidsP_own v (flat (.seq a b)) w1 (hv.below hb) (by rw [flat_len]; omega);rw [show kids (flat (.seq a b))=[flat a,flat b] from kids_seq a b] at h;exact h
  have GO:Hid (∀ w,Calls Tryz.prog 97 #[.int .i64 5] w fun e w'=>e=.returned (.int .i64 1)∧w=w'):=Lib.hid fun w=>goOn_any (.seq a b) w
  have HL:Hid (sz (.seq a b)≤400):=Lib.hid hl;obtain ⟨bb,oo,cc,rfl,hc,hlt,hw,hat⟩:=form3 hv;obtain ⟨nn,hn⟩:∃ n,sz (.seq a b)=n+1:=⟨sz (.seq a b) - 1,by have:=sz_pos (.seq a b); omega⟩
  rw [hn] at hc HK ⊢;have g3:(1:Int)≤(nn:Int)+1:=by omega
  rw [show kd (.seq a b)=5 from rfl,show nmT (.seq a b)=⟨#[]⟩ from rfl,show sg (.seq a b)=0 from rfl] at hw;obtain ⟨e0,e1,e2⟩:=hw w (Below.refl _ _);unfold OutB;clear hat hv hl hn hw
  go_enter Tryz.func64,Tryz.ntmps64
  go_upto_region 1 with fail
  go_cut [3,4] (fun s3 s4 wx=>∃ (B:Nat),s3=.pointer (some ⟨B,0,none⟩)∧w.heap.size≤B∧BoxN wx B 5 0 ⟨#[]⟩∧Kd w.heap.size B wx s4 [flat a,flat b]∧Below w.heap.size w wx)
  case first=>
    clear GO HL
    go_region_with (first
      | (go_at_call 50
         (with_reducible refine (HK.out _ (Below.refl _ _).drew).mono ?_)
         rintro e w1 ⟨y,cs,rfl,hown,hk,hb1⟩;have B1:=Lib.hid ((Below.refl w.heap.size w).drew.trans hb1);have K1:Hid (Kd w.heap.size w1.heap.size w1 y [flat a,flat b]):=Lib.hid (kd_of hown hk (.inr (Nat.le_refl _)));have c0:w1.cell? ⟨bb,oo,none⟩=some (.int .i64 5):=by rw [B1.out.cell (p:=⟨bb,oo,none⟩) hlt]; exact e0
         have c1:w1.cell? ⟨bb,oo+1,none⟩=some (.string ⟨#[]⟩):=by rw [B1.out.cell (p:=⟨bb,oo+1,none⟩) hlt]; exact e1
         have c2:w1.cell? ⟨bb,oo+2,none⟩=some (.int .i64 0):=by rw [B1.out.cell (p:=⟨bb,oo+2,none⟩) hlt]; exact e2
         have hbl1:bb < w1.heap.size:=Ap.cell_lt c0;clear hown hk hb1)
      | (go_at_call 50
         (refine (HK.out _ ((Below.refl _ _).alloc (Nat.le_refl _) _).drew).mono ?_)
         rintro e w1 ⟨y,cs,rfl,hown,hk,hb1⟩;have B1:=Lib.hid (((Below.refl w.heap.size w).alloc (Nat.le_refl _) _).drew.trans (hb1.mono (by simp)));have KB:Hid (∀ u1 u2 u3:Value,Kd w.heap.size w.heap.size (((w1.setCell ⟨w.heap.size,0,none⟩ u1).setCell ⟨w.heap.size,1,none⟩ u2).setCell ⟨w.heap.size,2,none⟩ u3) y [flat a,flat b]):=Lib.hid fun u1 u2 u3=>((Kd.base (base':=w.heap.size) (B':=w.heap.size) (kd_of (B:=w.heap.size) hown hk (.inl (by simp))) (by simp) (fun k h1 _ e=>by simp at h1; omega)).setB.setB).setB
         have k0:w1.cell? ⟨w.heap.size,0,none⟩=some (.int .i64 0):=by rw [hb1.cell (p:=⟨w.heap.size,0,none⟩) (by simp)]; simp [go_sem]
         have k1:w1.cell? ⟨w.heap.size,1,none⟩=some (.string ⟨#[]⟩):=by rw [hb1.cell (p:=⟨w.heap.size,1,none⟩) (by simp)]; simp [go_sem]
         have k2:w1.cell? ⟨w.heap.size,2,none⟩=some (.int .i64 0):=by rw [hb1.cell (p:=⟨w.heap.size,2,none⟩) (by simp)]; simp [go_sem]
         have f0:w1.frozen? ⟨w.heap.size,0,none⟩=false:=by rw [hb1.frozen (p:=⟨w.heap.size,0,none⟩) (by simp)]; simp [go_sem]
         have f1:w1.frozen? ⟨w.heap.size,1,none⟩=false:=by rw [hb1.frozen (p:=⟨w.heap.size,1,none⟩) (by simp)]; simp [go_sem]
         have f2:w1.frozen? ⟨w.heap.size,2,none⟩=false:=by rw [hb1.frozen (p:=⟨w.heap.size,2,none⟩) (by simp)]; simp [go_sem]
         have c0:w1.cell? ⟨bb,oo,none⟩=some (.int .i64 5):=by rw [B1.out.cell (p:=⟨bb,oo,none⟩) hlt]; exact e0
         have c1:w1.cell? ⟨bb,oo+1,none⟩=some (.string ⟨#[]⟩):=by rw [B1.out.cell (p:=⟨bb,oo+1,none⟩) hlt]; exact e1
         have c2:w1.cell? ⟨bb,oo+2,none⟩=some (.int .i64 0):=by rw [B1.out.cell (p:=⟨bb,oo+2,none⟩) hlt]; exact e2
         have hbl1:bb < w1.heap.size:=Ap.cell_lt c0;clear hown hk hb1)
      | fail)
    all_goals go_wp2_with fail
    all_goals go_meet
    all_goals first
      | exact ⟨_,rfl,B1.out.size,⟨by simp,by simp,by simp⟩,K1.out.below (below1 _ _),B1.out.alloc B1.out.size _⟩
      | exact ⟨_,rfl,Nat.le_refl _,box_set k0 k1 k2,KB.out _ _ _,((B1.out.setCell (Nat.le_refl _) _).setCell (Nat.le_refl _) _).setCell (Nat.le_refl _) _⟩
  case rest=>
    obtain ⟨B,rfl,hB,hbx,hkd,hbel⟩:=hcut;have BB:=Lib.hid hbel;have BX:=Lib.hid hbx;have KK:=Lib.hid hkd;have HLB:=Lib.hid hB;obtain ⟨x0,x1,x2⟩:=hbx;clear hbel HK e0 e1 e2 hB;obtain ⟨g,ck,y0,y1,rfl,hg,hgB,hgl,hf,q0,q1,r0,r1⟩:=Kd.two hkd;clear hkd;go_wp2_with fail;refine (GO.out _).mono ?_;rintro e w0 ⟨rfl,rfl⟩;go_wp2_with fail;refine Go.wp_loop_rounds 2 ?_;rw [rounds_succ];go_wp2_with fail;refine (PA.out y0 wc (Ap.RdO.rd r0)).mono ?_;rintro e w1 ⟨z,rfl,hn,hb⟩;obtain ⟨_,az,cz,rfl,-⟩:=id hn;have hg1:g < w1.heap.size:=Nat.lt_of_lt_of_le hgl hb.size;have p0:w1.cell? ⟨g,0,none⟩=some y0:=by rw [hb.cell (p:=⟨g,0,none⟩) hgl]; exact q0
    have p1:w1.cell? ⟨g,1,none⟩=some y1:=by rw [hb.cell (p:=⟨g,1,none⟩) hgl]; exact q1
    have hf1:∀ j,w1.frozen? ⟨g,j,none⟩=false:=fun j=>by rw [hb.frozen (p:=⟨g,j,none⟩) hgl]; exact hf j
    have f0:=hf1 0;have HF1:=Lib.hid hf1;have X1:=Lib.hid (BX.out.below hb);have D1:=Lib.hid (BB.out.trans (hb.mono BB.out.size));have Z1:=Lib.hid hn;have Y1:=Lib.hid (Ap.RdO.below r1 hb);clear hn hb hf hf1;go_wp2_with fail;rw [rounds_succ];have D1s:=Lib.hid (D1.out.setCell (p:=⟨g,0,none⟩) (show w.heap.size≤g from hg) (.slice az (flat (S a)).length cz));have X1s:=Lib.hid (BoxN.set (o:=0) (x:=.slice az (flat (S a)).length cz) X1.out (Ne.symm hgB));obtain ⟨v0,v1,v2⟩:=X1s.out;have ZS:Hid (NdO w.heap.size (w1.setCell ⟨g,0,none⟩ (.slice az (flat (S a)).length cz)) (.slice az (flat (S a)).length cz) (S a)):=Lib.hid (NdO.more (rdo_set Z1.out fun k hk=>by omega) (Nat.le_trans HLB.out (Nat.le_of_lt BX.out.lt)));have s0:=cell_set_eq (x:=.slice az (flat (S a)).length cz) p0;have s1:=(cell_set_o (g:=g) (x:=.slice az (flat (S a)).length cz) (show 0≠1 by decide)).trans p1;have YS:=Lib.hid (Ap.RdO.rd (rdo_set (o:=0) (x:=.slice az (flat (S a)).length cz) Y1.out fun k hk=>hk.2.2));go_wp2_with fail;refine (comes_seq w.heap.size (S a) b g ck _ _ _ s0 s1 ZS.out YS.out PB D1s.out.size (by have:=HL.out; have:=S_sz a; simp only [sz] at *; omega)).mono ?_;rintro e w3 ⟨u,rfl,hn,hb⟩;have N3:=Lib.hid hn;have D3:=Lib.hid (D1s.out.trans (hb.mono D1s.out.size));clear hn hb;go_wp2_with fail;go_ret;exact ⟨_,rfl,N3.out,D3.out⟩
set_option maxHeartbeats 4000000 in
theorem settled_hand (a b:Tm) (v:Value) (w:World) (hv:Nds w v (flat (.hand a b))) (PA:Hid (PS a)) (PB:Hid (PS b)) (hx:Hid (kd (S a)≠14)) (hl:sz (.hand a b)≤400) :
    Calls Tryz.prog 64 #[v] w (OutB w.heap.size (sHand S (S a) b) w):=by
  have HK:Hid (∀ w1,Below w.heap.size w w1→Calls Tryz.prog 50 #[v] w1 (Rx.KidsOwn [flat a,flat b] w1)):=Lib.hid fun w1 hb=>by
    have h:=Rx.kidsP_own v (flat (.hand a b)) w1 (hv.below hb) (by rw [flat_len]; omega);rw [show kids (flat (.hand a b))=[flat a,flat b] from kids_hand a b] at h;exact h
  have GO:Hid (∀ w,Calls Tryz.prog 97 #[.int .i64 8] w fun e w'=>e=.returned (.int .i64 1)∧w=w'):=Lib.hid fun w=>goOn_any (.hand a b) w
  have HL:Hid (sz (.hand a b)≤400):=Lib.hid hl;obtain ⟨bb,oo,cc,rfl,hc,hlt,hw,hat⟩:=form3 hv;obtain ⟨nn,hn⟩:∃ n,sz (.hand a b)=n+1:=⟨sz (.hand a b) - 1,by have:=sz_pos (.hand a b); omega⟩
  rw [hn] at hc HK ⊢;have g3:(1:Int)≤(nn:Int)+1:=by omega
  rw [show kd (.hand a b)=8 from rfl,show nmT (.hand a b)=⟨#[]⟩ from rfl,show sg (.hand a b)=0 from rfl] at hw;obtain ⟨e0,e1,e2⟩:=hw w (Below.refl _ _);unfold OutB;clear hat hv hl hn hw
  go_enter Tryz.func64,Tryz.ntmps64
  go_upto_region 1 with fail
  go_cut [3,4] (fun s3 s4 wx=>∃ (B:Nat),s3=.pointer (some ⟨B,0,none⟩)∧w.heap.size≤B∧BoxN wx B 8 0 ⟨#[]⟩∧Kd w.heap.size B wx s4 [flat a,flat b]∧Below w.heap.size w wx)
  case first=>
    clear GO HL
    go_region_with (first
      | (go_at_call 50
         (with_reducible refine (HK.out _ (Below.refl _ _).drew).mono ?_)
         rintro e w1 ⟨y,cs,rfl,hown,hk,hb1⟩;have B1:=Lib.hid ((Below.refl w.heap.size w).drew.trans hb1);have K1:Hid (Kd w.heap.size w1.heap.size w1 y [flat a,flat b]):=Lib.hid (kd_of hown hk (.inr (Nat.le_refl _)));have c0:w1.cell? ⟨bb,oo,none⟩=some (.int .i64 8):=by rw [B1.out.cell (p:=⟨bb,oo,none⟩) hlt]; exact e0
         have c1:w1.cell? ⟨bb,oo+1,none⟩=some (.string ⟨#[]⟩):=by rw [B1.out.cell (p:=⟨bb,oo+1,none⟩) hlt]; exact e1
         have c2:w1.cell? ⟨bb,oo+2,none⟩=some (.int .i64 0):=by rw [B1.out.cell (p:=⟨bb,oo+2,none⟩) hlt]; exact e2
         have hbl1:bb < w1.heap.size:=Ap.cell_lt c0;clear hown hk hb1)
      | (go_at_call 50
         (refine (HK.out _ ((Below.refl _ _).alloc (Nat.le_refl _) _).drew).mono ?_)
         rintro e w1 ⟨y,cs,rfl,hown,hk,hb1⟩;have B1:=Lib.hid (((Below.refl w.heap.size w).alloc (Nat.le_refl _) _).drew.trans (hb1.mono (by simp)));have KB:Hid (∀ u1 u2 u3:Value,Kd w.heap.size w.heap.size (((w1.setCell ⟨w.heap.size,0,none⟩ u1).setCell ⟨w.heap.size,1,none⟩ u2).setCell ⟨w.heap.size,2,none⟩ u3) y [flat a,flat b]):=Lib.hid fun u1 u2 u3=>((Kd.base (base':=w.heap.size) (B':=w.heap.size) (kd_of (B:=w.heap.size) hown hk (.inl (by simp))) (by simp) (fun k h1 _ e=>by simp at h1; omega)).setB.setB).setB
         have k0:w1.cell? ⟨w.heap.size,0,none⟩=some (.int .i64 0):=by rw [hb1.cell (p:=⟨w.heap.size,0,none⟩) (by simp)]; simp [go_sem]
         have k1:w1.cell? ⟨w.heap.size,1,none⟩=some (.string ⟨#[]⟩):=by rw [hb1.cell (p:=⟨w.heap.size,1,none⟩) (by simp)]; simp [go_sem]
         have k2:w1.cell? ⟨w.heap.size,2,none⟩=some (.int .i64 0):=by rw [hb1.cell (p:=⟨w.heap.size,2,none⟩) (by simp)]; simp [go_sem]
         have f0:w1.frozen? ⟨w.heap.size,0,none⟩=false:=by rw [hb1.frozen (p:=⟨w.heap.size,0,none⟩) (by simp)]; simp [go_sem]
         have f1:w1.frozen? ⟨w.heap.size,1,none⟩=false:=by rw [hb1.frozen (p:=⟨w.heap.size,1,none⟩) (by simp)]; simp [go_sem]
         have f2:w1.frozen? ⟨w.heap.size,2,none⟩=false:=by rw [hb1.frozen (p:=⟨w.heap.size,2,none⟩) (by simp)]; simp [go_sem]
         have c0:w1.cell? ⟨bb,oo,none⟩=some (.int .i64 8):=by rw [B1.out.cell (p:=⟨bb,oo,none⟩) hlt]; exact e0
         have c1:w1.cell? ⟨bb,oo+1,none⟩=some (.string ⟨#[]⟩):=by rw [B1.out.cell (p:=⟨bb,oo+1,none⟩) hlt]; exact e1
         have c2:w1.cell? ⟨bb,oo+2,none⟩=some (.int .i64 0):=by rw [B1.out.cell (p:=⟨bb,oo+2,none⟩) hlt]; exact e2
         have hbl1:bb < w1.heap.size:=Ap.cell_lt c0;clear hown hk hb1)
      | fail)
    all_goals go_wp2_with fail
    all_goals go_meet
    all_goals first
      | exact ⟨_,rfl,B1.out.size,⟨by simp,by simp,by simp⟩,K1.out.below (below1 _ _),B1.out.alloc B1.out.size _⟩
      | exact ⟨_,rfl,Nat.le_refl _,box_set k0 k1 k2,KB.out _ _ _,((B1.out.setCell (Nat.le_refl _) _).setCell (Nat.le_refl _) _).setCell (Nat.le_refl _) _⟩
  case rest=>
    obtain ⟨B,rfl,hB,hbx,hkd,hbel⟩:=hcut;have BB:=Lib.hid hbel;have BX:=Lib.hid hbx;have KK:=Lib.hid hkd;have HLB:=Lib.hid hB;obtain ⟨x0,x1,x2⟩:=hbx;clear hbel HK e0 e1 e2 hB;obtain ⟨g,ck,y0,y1,rfl,hg,hgB,hgl,hf,q0,q1,r0,r1⟩:=Kd.two hkd;clear hkd;go_wp2_with fail;refine (GO.out _).mono ?_;rintro e w0 ⟨rfl,rfl⟩;go_wp2_with fail;refine Go.wp_loop_rounds 2 ?_;rw [rounds_succ];go_wp2_with fail;refine (PA.out y0 wc (Ap.RdO.rd r0)).mono ?_;rintro e w1 ⟨z,rfl,hn,hb⟩;obtain ⟨_,az,cz,rfl,-⟩:=id hn;have hg1:g < w1.heap.size:=Nat.lt_of_lt_of_le hgl hb.size;have p0:w1.cell? ⟨g,0,none⟩=some y0:=by rw [hb.cell (p:=⟨g,0,none⟩) hgl]; exact q0
    have p1:w1.cell? ⟨g,1,none⟩=some y1:=by rw [hb.cell (p:=⟨g,1,none⟩) hgl]; exact q1
    have hf1:∀ j,w1.frozen? ⟨g,j,none⟩=false:=fun j=>by rw [hb.frozen (p:=⟨g,j,none⟩) hgl]; exact hf j
    have f0:=hf1 0;have HF1:=Lib.hid hf1;have X1:=Lib.hid (BX.out.below hb);have D1:=Lib.hid (BB.out.trans (hb.mono BB.out.size));have Z1:=Lib.hid hn;have Y1:=Lib.hid (Ap.RdO.below r1 hb);clear hn hb hf hf1;go_wp2_with fail;rw [rounds_succ];have D1s:=Lib.hid (D1.out.setCell (p:=⟨g,0,none⟩) (show w.heap.size≤g from hg) (.slice az (flat (S a)).length cz));have X1s:=Lib.hid (BoxN.set (o:=0) (x:=.slice az (flat (S a)).length cz) X1.out (Ne.symm hgB));obtain ⟨v0,v1,v2⟩:=X1s.out;have ZS:Hid (NdO w.heap.size (w1.setCell ⟨g,0,none⟩ (.slice az (flat (S a)).length cz)) (.slice az (flat (S a)).length cz) (S a)):=Lib.hid (NdO.more (rdo_set Z1.out fun k hk=>by omega) (Nat.le_trans HLB.out (Nat.le_of_lt BX.out.lt)));have s0:=cell_set_eq (x:=.slice az (flat (S a)).length cz) p0;have s1:=(cell_set_o (g:=g) (x:=.slice az (flat (S a)).length cz) (show 0≠1 by decide)).trans p1;have YS:=Lib.hid (Ap.RdO.rd (rdo_set (o:=0) (x:=.slice az (flat (S a)).length cz) Y1.out fun k hk=>hk.2.2));go_wp2_with fail;refine (comes_hand w.heap.size (S a) b g ck _ _ _ s0 s1 ZS.out YS.out PB hx D1s.out.size (by have:=HL.out; have:=S_sz a; simp only [sz] at *; omega)).mono ?_;rintro e w3 ⟨u,rfl,hn,hb⟩;have N3:=Lib.hid hn;have D3:=Lib.hid (D1s.out.trans (hb.mono D1s.out.size));clear hn hb;go_wp2_with fail;go_ret;exact ⟨_,rfl,N3.out,D3.out⟩
set_option maxHeartbeats 4000000 in
theorem settled_going (a b:Tm) (v:Value) (w:World) (hv:Nds w v (flat (.going a b))) (PA:Hid (PS a)) (hl:sz (.going a b)≤400) :
    Calls Tryz.prog 64 #[v] w (OutB w.heap.size (sGoing (S a) b) w):=by
  have HK:Hid (∀ w1,Below w.heap.size w w1→Calls Tryz.prog 50 #[v] w1 (Rx.KidsOwn [flat a,flat b] w1)):=Lib.hid fun w1 hb=>by
    have h:=Rx.kidsP_own v (flat (.going a b)) w1 (hv.below hb) (by rw [flat_len]; omega);rw [show kids (flat (.going a b))=[flat a,flat b] from kids_going a b] at h;exact h
  have GO:Hid (∀ w,Calls Tryz.prog 97 #[.int .i64 12] w fun e w'=>e=.returned (.int .i64 1)∧w=w'):=Lib.hid fun w=>goOn_any (.going a b) w
  have HL:Hid (sz (.going a b)≤400):=Lib.hid hl;obtain ⟨bb,oo,cc,rfl,hc,hlt,hw,hat⟩:=form3 hv;obtain ⟨nn,hn⟩:∃ n,sz (.going a b)=n+1:=⟨sz (.going a b) - 1,by have:=sz_pos (.going a b); omega⟩
  rw [hn] at hc HK ⊢;have g3:(1:Int)≤(nn:Int)+1:=by omega
  rw [show kd (.going a b)=12 from rfl,show nmT (.going a b)=⟨#[]⟩ from rfl,show sg (.going a b)=0 from rfl] at hw;obtain ⟨e0,e1,e2⟩:=hw w (Below.refl _ _);unfold OutB;clear hat hv hl hn hw
  go_enter Tryz.func64,Tryz.ntmps64
  go_upto_region 1 with fail
  go_cut [3,4] (fun s3 s4 wx=>∃ (B:Nat),s3=.pointer (some ⟨B,0,none⟩)∧w.heap.size≤B∧BoxN wx B 12 0 ⟨#[]⟩∧Kd w.heap.size B wx s4 [flat a,flat b]∧Below w.heap.size w wx)
  case first=>
    clear GO HL
    go_region_with (first
      | (go_at_call 50
         (with_reducible refine (HK.out _ (Below.refl _ _).drew).mono ?_)
         rintro e w1 ⟨y,cs,rfl,hown,hk,hb1⟩;have B1:=Lib.hid ((Below.refl w.heap.size w).drew.trans hb1);have K1:Hid (Kd w.heap.size w1.heap.size w1 y [flat a,flat b]):=Lib.hid (kd_of hown hk (.inr (Nat.le_refl _)));have c0:w1.cell? ⟨bb,oo,none⟩=some (.int .i64 12):=by rw [B1.out.cell (p:=⟨bb,oo,none⟩) hlt]; exact e0
         have c1:w1.cell? ⟨bb,oo+1,none⟩=some (.string ⟨#[]⟩):=by rw [B1.out.cell (p:=⟨bb,oo+1,none⟩) hlt]; exact e1
         have c2:w1.cell? ⟨bb,oo+2,none⟩=some (.int .i64 0):=by rw [B1.out.cell (p:=⟨bb,oo+2,none⟩) hlt]; exact e2
         have hbl1:bb < w1.heap.size:=Ap.cell_lt c0;clear hown hk hb1)
      | (go_at_call 50
         (refine (HK.out _ ((Below.refl _ _).alloc (Nat.le_refl _) _).drew).mono ?_)
         rintro e w1 ⟨y,cs,rfl,hown,hk,hb1⟩;have B1:=Lib.hid (((Below.refl w.heap.size w).alloc (Nat.le_refl _) _).drew.trans (hb1.mono (by simp)));have KB:Hid (∀ u1 u2 u3:Value,Kd w.heap.size w.heap.size (((w1.setCell ⟨w.heap.size,0,none⟩ u1).setCell ⟨w.heap.size,1,none⟩ u2).setCell ⟨w.heap.size,2,none⟩ u3) y [flat a,flat b]):=Lib.hid fun u1 u2 u3=>((Kd.base (base':=w.heap.size) (B':=w.heap.size) (kd_of (B:=w.heap.size) hown hk (.inl (by simp))) (by simp) (fun k h1 _ e=>by simp at h1; omega)).setB.setB).setB
         have k0:w1.cell? ⟨w.heap.size,0,none⟩=some (.int .i64 0):=by rw [hb1.cell (p:=⟨w.heap.size,0,none⟩) (by simp)]; simp [go_sem]
         have k1:w1.cell? ⟨w.heap.size,1,none⟩=some (.string ⟨#[]⟩):=by rw [hb1.cell (p:=⟨w.heap.size,1,none⟩) (by simp)]; simp [go_sem]
         have k2:w1.cell? ⟨w.heap.size,2,none⟩=some (.int .i64 0):=by rw [hb1.cell (p:=⟨w.heap.size,2,none⟩) (by simp)]; simp [go_sem]
         have f0:w1.frozen? ⟨w.heap.size,0,none⟩=false:=by rw [hb1.frozen (p:=⟨w.heap.size,0,none⟩) (by simp)]; simp [go_sem]
         have f1:w1.frozen? ⟨w.heap.size,1,none⟩=false:=by rw [hb1.frozen (p:=⟨w.heap.size,1,none⟩) (by simp)]; simp [go_sem]
         have f2:w1.frozen? ⟨w.heap.size,2,none⟩=false:=by rw [hb1.frozen (p:=⟨w.heap.size,2,none⟩) (by simp)]; simp [go_sem]
         have c0:w1.cell? ⟨bb,oo,none⟩=some (.int .i64 12):=by rw [B1.out.cell (p:=⟨bb,oo,none⟩) hlt]; exact e0
         have c1:w1.cell? ⟨bb,oo+1,none⟩=some (.string ⟨#[]⟩):=by rw [B1.out.cell (p:=⟨bb,oo+1,none⟩) hlt]; exact e1
         have c2:w1.cell? ⟨bb,oo+2,none⟩=some (.int .i64 0):=by rw [B1.out.cell (p:=⟨bb,oo+2,none⟩) hlt]; exact e2
         have hbl1:bb < w1.heap.size:=Ap.cell_lt c0;clear hown hk hb1)
      | fail)
    all_goals go_wp2_with fail
    all_goals go_meet
    all_goals first
      | exact ⟨_,rfl,B1.out.size,⟨by simp,by simp,by simp⟩,K1.out.below (below1 _ _),B1.out.alloc B1.out.size _⟩
      | exact ⟨_,rfl,Nat.le_refl _,box_set k0 k1 k2,KB.out _ _ _,((B1.out.setCell (Nat.le_refl _) _).setCell (Nat.le_refl _) _).setCell (Nat.le_refl _) _⟩
  case rest=>
    obtain ⟨B,rfl,hB,hbx,hkd,hbel⟩:=hcut;have BB:=Lib.hid hbel;have BX:=Lib.hid hbx;have KK:=Lib.hid hkd;have HLB:=Lib.hid hB;obtain ⟨x0,x1,x2⟩:=hbx;clear hbel HK e0 e1 e2 hB;obtain ⟨g,ck,y0,y1,rfl,hg,hgB,hgl,hf,q0,q1,r0,r1⟩:=Kd.two hkd;clear hkd;go_wp2_with fail;refine (GO.out _).mono ?_;rintro e w0 ⟨rfl,rfl⟩;go_wp2_with fail;refine Go.wp_loop_rounds 2 ?_;rw [rounds_succ];go_wp2_with fail;refine (PA.out y0 wc (Ap.RdO.rd r0)).mono ?_;rintro e w1 ⟨z,rfl,hn,hb⟩;obtain ⟨_,az,cz,rfl,-⟩:=id hn;have hg1:g < w1.heap.size:=Nat.lt_of_lt_of_le hgl hb.size;have p0:w1.cell? ⟨g,0,none⟩=some y0:=by rw [hb.cell (p:=⟨g,0,none⟩) hgl]; exact q0
    have p1:w1.cell? ⟨g,1,none⟩=some y1:=by rw [hb.cell (p:=⟨g,1,none⟩) hgl]; exact q1
    have hf1:∀ j,w1.frozen? ⟨g,j,none⟩=false:=fun j=>by rw [hb.frozen (p:=⟨g,j,none⟩) hgl]; exact hf j
    have f0:=hf1 0;have HF1:=Lib.hid hf1;have X1:=Lib.hid (BX.out.below hb);have D1:=Lib.hid (BB.out.trans (hb.mono BB.out.size));have Z1:=Lib.hid hn;have Y1:=Lib.hid (Ap.RdO.below r1 hb);clear hn hb hf hf1;go_wp2_with fail;rw [rounds_succ];have D1s:=Lib.hid (D1.out.setCell (p:=⟨g,0,none⟩) (show w.heap.size≤g from hg) (.slice az (flat (S a)).length cz));have X1s:=Lib.hid (BoxN.set (o:=0) (x:=.slice az (flat (S a)).length cz) X1.out (Ne.symm hgB));obtain ⟨v0,v1,v2⟩:=X1s.out;have ZS:Hid (NdO w.heap.size (w1.setCell ⟨g,0,none⟩ (.slice az (flat (S a)).length cz)) (.slice az (flat (S a)).length cz) (S a)):=Lib.hid (NdO.more (rdo_set Z1.out fun k hk=>by omega) (Nat.le_trans HLB.out (Nat.le_of_lt BX.out.lt)));have s0:=cell_set_eq (x:=.slice az (flat (S a)).length cz) p0;have s1:=(cell_set_o (g:=g) (x:=.slice az (flat (S a)).length cz) (show 0≠1 by decide)).trans p1;have YS:=Lib.hid (Ap.RdO.rd (rdo_set (o:=0) (x:=.slice az (flat (S a)).length cz) Y1.out fun k hk=>hk.2.2));go_wp2_with fail;refine (comes_going w.heap.size (S a) b g ck _ _ _ s0 s1 ZS.out YS.out D1s.out.size (by have:=HL.out; have:=S_sz a; simp only [sz] at *; omega)).mono ?_;rintro e w3 ⟨u,rfl,hn,hb⟩;have N3:=Lib.hid hn;have D3:=Lib.hid (D1s.out.trans (hb.mono D1s.out.size));clear hn hb;go_wp2_with fail;go_ret;exact ⟨_,rfl,N3.out,D3.out⟩
end Go.Proofs.YtaapnkoooofalaaGreat.Se

namespace Go.Proofs.YtaapnkoooofalaaGreat.Pl
open Go Go.RowKit Rw So Ro
set_option maxRecDepth 20000
set_option maxHeartbeats 400000 in
theorem nodes_any (a:Option Addr) (n c:Nat) (w:World) :
    Calls Tryz.prog 210 #[.slice a n c] w fun e w'=>e=.returned (.func (.func 231) #[] #[.pointer (some ⟨w.heap.size,0,none⟩)])∧w'=w.alloc (.cells #[.slice a n c] 22):=by
  go_enter Tryz.func210,Tryz.ntmps210
  go_wp2_with fail;go_ret;exact ⟨rfl,rfl⟩
theorem Told.stay {l:List Nd} (k:Nat) (args:Array Value) (A:World) (r:Nat) (o o':Obj) (h:A.heap[r]?=some o) (hc:o.isCells=false) (he:Told l k args A):Told l k args (A.putObj r o'):=by
  obtain ⟨v,rfl,hl,a,cap,rfl,h1,h2,h3⟩:=he;refine ⟨_,rfl,hl,a,cap,rfl,h1,h2,fun h0=>?_⟩;obtain ⟨b,off,rfl,hj⟩:=h3 h0;exact ⟨b,off,rfl,fun j u hu=>cell_kept (hj j u hu) (grownBy_putObj' A r o') fun q e=>by cases e; exact ⟨o,h,hc⟩⟩
theorem Told.size {l:List Nd} (k:Nat) (args:Array Value) (A:World) (he:Told l k args A):args.size=2:=by
  obtain ⟨v,rfl,_⟩:=he
  rfl
theorem iter_any (B:Nat) (v:Value) (l:List Nd) (wc w0:World) (hv:Nds wc v l) (hl:l.length≤4398046511104) (hbc:Below wc.heap.size wc w0) (hc:w0.cell? ⟨B,0,none⟩=some v) :
    Iter Tryz.prog 231 #[.pointer (some ⟨B,0,none⟩)] (rounds l) (Told l) wc.heap.size w0:=by
  intro l0 J Jx W hbW hJ hY hJ0;have hcW:W.cell? ⟨B,0,none⟩=some v:=by rw [hbW.cell (Ap.cell_lt hc)]; exact hc
  have hbcW:Below wc.heap.size wc W:=hbc.trans (hbW.mono hbc.size);have hvW:Nds W v l:=hv.below hbcW
  show Calls Tryz.prog 231 #[.func (.yield l0) #[] #[],.pointer (some ⟨B,0,none⟩)] W _
  cases h1:one l with
  | false=>
    refine (nodes1_no B l0 v l W hcW hvW hl h1).mono ?_;rintro e w' ⟨hr,hb⟩;have e0:rounds l=0:=by unfold rounds; rw [h1]; rfl
    exact ⟨hr,_,.inl (by rw [e0]; exact hJ _ 0 W w' hJ0 (fun _ h=>h.elim) (Turn.of_below hb))⟩
  | true=>
    have e0:rounds l=l.length:=by unfold rounds; rw [h1]; rfl
    have hpos:=(one_tre.1 h1).pos;rw [e0] at hY ⊢
    rcases hv.form with ⟨rfl,_⟩ | ⟨b,off,cap,rfl,hcap,hat⟩
    · exact absurd hpos (Nat.lt_irrefl 0)
    · have hb0:b < wc.heap.size:=Ap.cell_lt (hat 0 hpos).1
      have hatW:At W b off l:=fun k hk=>by
        obtain ⟨e1,e2,e3⟩:=hat k hk;exact ⟨by rw [hbcW.cell (Ap.cell_lt e1)]; exact e1,by rw [hbcW.cell (Ap.cell_lt e2)]; exact e2,by rw [hbcW.cell (Ap.cell_lt e3)]; exact e3⟩
      exact nodes1_tree B l0 b off cap wc.heap.size l W hcW hvW hatW hl h1 hbcW.size hb0 J Jx hJ hY hJ0
end Go.Proofs.YtaapnkoooofalaaGreat.Pl
