/- The program's settled: the walks (Stack, Block, Par, all). Plain: the moves of a tree, and what stands there behind each, ahead of settling; what a tree means is what its moves make. Rows of points; what holds in the midst of Points' two regions. Settle, the document's and the program's; Settled, Begin: the walks. -/
import Derived.Test.YtaapnkoooofalaaGreatQ21
import Derived.Test.YtaapnkoooofalaaGreatQ22
import Derived.Deep.DeepCutAuto
import Derived.Test.YtaapnkoooofalaaGreatQ20
import Derived.Shelf.Abstract
import Derived.Test.YtaapnkoooofalaaGreatQ12
import Derived.Test.YtaapnkoooofalaaGreatQ07

namespace Go.Proofs.YtaapnkoooofalaaGreat.Se
open Go Go.RowKit Rw So
set_option maxRecDepth 20000
set_option maxHeartbeats 4000000 in
theorem settled_stack (a b:Tm) (v:Value) (w:World) (hv:Nds w v (flat (.stack a b))) (PA:Hid (PS a)) (hl:sz (.stack a b)≤400) :
    Calls Tryz.prog 64 #[v] w (OutB w.heap.size (stk (S a) b) w):=by
  have HK:Hid (∀ w1,Below w.heap.size w w1→Calls Tryz.prog 50 #[v] w1 (Rx.KidsOwn [flat a,flat b] w1)):=Lib.hid fun w1 hb=>by
    have h:=Rx.kidsP_own v (flat (.stack a b)) w1 (hv.below hb) (by rw [flat_len]; omega);rw [show kids (flat (.stack a b))=[flat a,flat b] from kids_stack a b] at h;exact h
  have GO:Hid (∀ w,Calls Tryz.prog 97 #[.int .i64 13] w fun e w'=>e=.returned (.int .i64 1)∧w=w'):=Lib.hid fun w=>goOn_any (.stack a b) w
  have HL:Hid (sz (.stack a b)≤400):=Lib.hid hl;obtain ⟨bb,oo,cc,rfl,hc,hlt,hw,hat⟩:=form3 hv;obtain ⟨nn,hn⟩:∃ n,sz (.stack a b)=n+1:=⟨sz (.stack a b) - 1,by have:=sz_pos (.stack a b); omega⟩
  rw [hn] at hc HK ⊢;have g3:(1:Int)≤(nn:Int)+1:=by omega
  rw [show kd (.stack a b)=13 from rfl,show nmT (.stack a b)=⟨#[]⟩ from rfl,show sg (.stack a b)=0 from rfl] at hw;obtain ⟨e0,e1,e2⟩:=hw w (Below.refl _ _);unfold OutB;clear hat hv hl hn hw
  go_enter Tryz.func64,Tryz.ntmps64
  go_upto_region 1 with fail
  go_cut [3,4] (fun s3 s4 wx=>∃ (B:Nat),s3=.pointer (some ⟨B,0,none⟩)∧w.heap.size≤B∧BoxN wx B 13 0 ⟨#[]⟩∧Kd w.heap.size B wx s4 [flat a,flat b]∧Below w.heap.size w wx)
  case first=>
    clear GO HL
    go_region_with (first
      | (go_at_call 50
         (with_reducible refine (HK.out _ (Below.refl _ _).drew).mono ?_)
         rintro e w1 ⟨y,cs,rfl,hown,hk,hb1⟩;have B1:=Lib.hid ((Below.refl w.heap.size w).drew.trans hb1);have K1:Hid (Kd w.heap.size w1.heap.size w1 y [flat a,flat b]):=Lib.hid (kd_of hown hk (.inr (Nat.le_refl _)));have c0:w1.cell? ⟨bb,oo,none⟩=some (.int .i64 13):=by rw [B1.out.cell (p:=⟨bb,oo,none⟩) hlt]; exact e0
         have c1:w1.cell? ⟨bb,oo+1,none⟩=some (.string ⟨#[]⟩):=by rw [B1.out.cell (p:=⟨bb,oo+1,none⟩) hlt]; exact e1
         have c2:w1.cell? ⟨bb,oo+2,none⟩=some (.int .i64 0):=by rw [B1.out.cell (p:=⟨bb,oo+2,none⟩) hlt]; exact e2
         have hbl1:bb < w1.heap.size:=Ap.cell_lt c0;clear hown hk hb1)
      | (go_at_call 50
         (refine (HK.out _ ((Below.refl _ _).alloc (Nat.le_refl _) _).drew).mono ?_)
         rintro e w1 ⟨y,cs,rfl,hown,hk,hb1⟩;have B1:=Lib.hid (((Below.refl w.heap.size w).alloc (Nat.le_refl _) _).drew.trans (hb1.mono (by simp)));have KB:Hid (∀ u1 u2 u3:Value,Kd w.heap.size w.heap.size (((w1.setCell ⟨w.heap.size,0,none⟩ u1).setCell ⟨w.heap.size,1,none⟩ u2).setCell ⟨w.heap.size,2,none⟩ u3) y [flat a,flat b]):=Lib.hid fun u1 u2 u3=>((Kd.base (base':=w.heap.size) (B':=w.heap.size) (kd_of (B:=w.heap.size) hown hk (.inl (by simp))) (by simp) (fun k h1 _ e=>by simp at h1; omega)).setB.setB).setB
         have k0:w1.cell? ⟨w.heap.size,0,none⟩=some (.int .i64 0):=by rw [hb1.cell (p:=⟨w.heap.size,0,none⟩) (by simp)]; simp [go_sem]
         have k1:w1.cell? ⟨w.heap.size,1,none⟩=some (.string ⟨#[]⟩):=by rw [hb1.cell (p:=⟨w.heap.size,1,none⟩) (by simp)]; simp [go_sem]
         have k2:w1.cell? ⟨w.heap.size,2,none⟩=some (.int .i64 0):=by rw [hb1.cell (p:=⟨w.heap.size,2,none⟩) (by simp)]; simp [go_sem]
         have f0:w1.frozen? ⟨w.heap.size,0,none⟩=false:=by rw [hb1.frozen (p:=⟨w.heap.size,0,none⟩) (by simp)]; simp [go_sem]
         have f1:w1.frozen? ⟨w.heap.size,1,none⟩=false:=by rw [hb1.frozen (p:=⟨w.heap.size,1,none⟩) (by simp)]; simp [go_sem]
         have f2:w1.frozen? ⟨w.heap.size,2,none⟩=false:=by rw [hb1.frozen (p:=⟨w.heap.size,2,none⟩) (by simp)]; simp [go_sem]
         have c0:w1.cell? ⟨bb,oo,none⟩=some (.int .i64 13):=by rw [B1.out.cell (p:=⟨bb,oo,none⟩) hlt]; exact e0
         have c1:w1.cell? ⟨bb,oo+1,none⟩=some (.string ⟨#[]⟩):=by rw [B1.out.cell (p:=⟨bb,oo+1,none⟩) hlt]; exact e1
         have c2:w1.cell? ⟨bb,oo+2,none⟩=some (.int .i64 0):=by rw [B1.out.cell (p:=⟨bb,oo+2,none⟩) hlt]; exact e2
         have hbl1:bb < w1.heap.size:=Ap.cell_lt c0;clear hown hk hb1)
      | fail)
    all_goals go_wp2_with fail
    all_goals go_meet
    all_goals first
      | exact ⟨_,rfl,B1.out.size,⟨by simp,by simp,by simp⟩,K1.out.below (below1 _ _),B1.out.alloc B1.out.size _⟩
      | exact ⟨_,rfl,Nat.le_refl _,box_set k0 k1 k2,KB.out _ _ _,((B1.out.setCell (Nat.le_refl _) _).setCell (Nat.le_refl _) _).setCell (Nat.le_refl _) _⟩
  case rest=>
    obtain ⟨B,rfl,hB,hbx,hkd,hbel⟩:=hcut;have BB:=Lib.hid hbel;have BX:=Lib.hid hbx;have KK:=Lib.hid hkd;have HLB:=Lib.hid hB;obtain ⟨x0,x1,x2⟩:=hbx;clear hbel HK e0 e1 e2 hB;obtain ⟨g,ck,y0,y1,rfl,hg,hgB,hgl,hf,q0,q1,r0,r1⟩:=Kd.two hkd;clear hkd;go_wp2_with fail;refine (GO.out _).mono ?_;rintro e w0 ⟨rfl,rfl⟩;go_wp2_with fail;refine Go.wp_loop_rounds 2 ?_;rw [rounds_succ];go_wp2_with fail;refine (PA.out y0 wc (Ap.RdO.rd r0)).mono ?_;rintro e w1 ⟨z,rfl,hn,hb⟩;obtain ⟨_,az,cz,rfl,-⟩:=id hn;have hg1:g < w1.heap.size:=Nat.lt_of_lt_of_le hgl hb.size;have p0:w1.cell? ⟨g,0,none⟩=some y0:=by rw [hb.cell (p:=⟨g,0,none⟩) hgl]; exact q0
    have p1:w1.cell? ⟨g,1,none⟩=some y1:=by rw [hb.cell (p:=⟨g,1,none⟩) hgl]; exact q1
    have hf1:∀ j,w1.frozen? ⟨g,j,none⟩=false:=fun j=>by rw [hb.frozen (p:=⟨g,j,none⟩) hgl]; exact hf j
    have f0:=hf1 0;have HF1:=Lib.hid hf1;have X1:=Lib.hid (BX.out.below hb);have D1:=Lib.hid (BB.out.trans (hb.mono BB.out.size));have Z1:=Lib.hid hn;have Y1:=Lib.hid (Ap.RdO.below r1 hb);clear hn hb hf hf1;go_wp2_with fail;rw [rounds_succ];have D1s:=Lib.hid (D1.out.setCell (p:=⟨g,0,none⟩) (show w.heap.size≤g from hg) (.slice az (flat (S a)).length cz));have X1s:=Lib.hid (BoxN.set (o:=0) (x:=.slice az (flat (S a)).length cz) X1.out (Ne.symm hgB));obtain ⟨v0,v1,v2⟩:=X1s.out;have ZS:Hid (NdO w.heap.size (w1.setCell ⟨g,0,none⟩ (.slice az (flat (S a)).length cz)) (.slice az (flat (S a)).length cz) (S a)):=Lib.hid (NdO.more (rdo_set Z1.out fun k hk=>by omega) (Nat.le_trans HLB.out (Nat.le_of_lt BX.out.lt)));have s0:=cell_set_eq (x:=.slice az (flat (S a)).length cz) p0;have s1:=(cell_set_o (g:=g) (x:=.slice az (flat (S a)).length cz) (show 0≠1 by decide)).trans p1;have YS:=Lib.hid (Ap.RdO.rd (rdo_set (o:=0) (x:=.slice az (flat (S a)).length cz) Y1.out fun k hk=>hk.2.2));go_wp2_with fail;refine (comes_stack w.heap.size (S a) b g ck _ _ _ s0 s1 ZS.out YS.out D1s.out.size (by have:=HL.out; have:=S_sz a; simp only [sz] at *; omega)).mono ?_;rintro e w3 ⟨u,rfl,hn,hb⟩;have N3:=Lib.hid hn;have D3:=Lib.hid (D1s.out.trans (hb.mono D1s.out.size));clear hn hb;go_wp2_with fail;go_ret;exact ⟨_,rfl,N3.out,D3.out⟩
set_option maxHeartbeats 4000000 in
theorem settled_block (a:Tm) (v:Value) (w:World) (hv:Nds w v (flat (.block a))) (PA:Hid (PS a)) (hx:Hid (∀ s c,S a=.fin s c→PS c)) (hl:sz (.block a)≤400) :
    Calls Tryz.prog 64 #[v] w (OutB w.heap.size (sBlock S (S a)) w):=by
  have HK:Hid (∀ w1,Below w.heap.size w w1→Calls Tryz.prog 50 #[v] w1 (Rx.KidsOwn [flat a] w1)):=Lib.hid fun w1 hb=>by
    have h:=Rx.kidsP_own v (flat (.block a)) w1 (hv.below hb) (by rw [flat_len]; omega);rw [show kids (flat (.block a))=[flat a] from kids_block a] at h;exact h
  have GO:Hid (∀ w,Calls Tryz.prog 97 #[.int .i64 9] w fun e w'=>e=.returned (.int .i64 1)∧w=w'):=Lib.hid fun w=>goOn_any (.block a) w
  have HL:Hid (sz (.block a)≤400):=Lib.hid hl;obtain ⟨bb,oo,cc,rfl,hc,hlt,hw,hat⟩:=form3 hv;obtain ⟨nn,hn⟩:∃ n,sz (.block a)=n+1:=⟨sz (.block a) - 1,by have:=sz_pos (.block a); omega⟩
  rw [hn] at hc HK ⊢;have g3:(1:Int)≤(nn:Int)+1:=by omega
  rw [show kd (.block a)=9 from rfl,show nmT (.block a)=⟨#[]⟩ from rfl,show sg (.block a)=0 from rfl] at hw;obtain ⟨e0,e1,e2⟩:=hw w (Below.refl _ _);unfold OutB;clear hat hv hl hn hw
  go_enter Tryz.func64,Tryz.ntmps64
  go_upto_region 1 with fail
  go_cut [3,4] (fun s3 s4 wx=>∃ (B:Nat),s3=.pointer (some ⟨B,0,none⟩)∧w.heap.size≤B∧BoxN wx B 9 0 ⟨#[]⟩∧Kd w.heap.size B wx s4 [flat a]∧Below w.heap.size w wx)
  case first=>
    clear GO HL
    go_region_with (first
      | (go_at_call 50
         (with_reducible refine (HK.out _ (Below.refl _ _).drew).mono ?_)
         rintro e w1 ⟨y,cs,rfl,hown,hk,hb1⟩;have B1:=Lib.hid ((Below.refl w.heap.size w).drew.trans hb1);have K1:Hid (Kd w.heap.size w1.heap.size w1 y [flat a]):=Lib.hid (kd_of hown hk (.inr (Nat.le_refl _)));have c0:w1.cell? ⟨bb,oo,none⟩=some (.int .i64 9):=by rw [B1.out.cell (p:=⟨bb,oo,none⟩) hlt]; exact e0
         have c1:w1.cell? ⟨bb,oo+1,none⟩=some (.string ⟨#[]⟩):=by rw [B1.out.cell (p:=⟨bb,oo+1,none⟩) hlt]; exact e1
         have c2:w1.cell? ⟨bb,oo+2,none⟩=some (.int .i64 0):=by rw [B1.out.cell (p:=⟨bb,oo+2,none⟩) hlt]; exact e2
         have hbl1:bb < w1.heap.size:=Ap.cell_lt c0;clear hown hk hb1)
      | (go_at_call 50
         (refine (HK.out _ ((Below.refl _ _).alloc (Nat.le_refl _) _).drew).mono ?_)
         rintro e w1 ⟨y,cs,rfl,hown,hk,hb1⟩;have B1:=Lib.hid (((Below.refl w.heap.size w).alloc (Nat.le_refl _) _).drew.trans (hb1.mono (by simp)));have KB:Hid (∀ u1 u2 u3:Value,Kd w.heap.size w.heap.size (((w1.setCell ⟨w.heap.size,0,none⟩ u1).setCell ⟨w.heap.size,1,none⟩ u2).setCell ⟨w.heap.size,2,none⟩ u3) y [flat a]):=Lib.hid fun u1 u2 u3=>((Kd.base (base':=w.heap.size) (B':=w.heap.size) (kd_of (B:=w.heap.size) hown hk (.inl (by simp))) (by simp) (fun k h1 _ e=>by simp at h1; omega)).setB.setB).setB
         have k0:w1.cell? ⟨w.heap.size,0,none⟩=some (.int .i64 0):=by rw [hb1.cell (p:=⟨w.heap.size,0,none⟩) (by simp)]; simp [go_sem]
         have k1:w1.cell? ⟨w.heap.size,1,none⟩=some (.string ⟨#[]⟩):=by rw [hb1.cell (p:=⟨w.heap.size,1,none⟩) (by simp)]; simp [go_sem]
         have k2:w1.cell? ⟨w.heap.size,2,none⟩=some (.int .i64 0):=by rw [hb1.cell (p:=⟨w.heap.size,2,none⟩) (by simp)]; simp [go_sem]
         have f0:w1.frozen? ⟨w.heap.size,0,none⟩=false:=by rw [hb1.frozen (p:=⟨w.heap.size,0,none⟩) (by simp)]; simp [go_sem]
         have f1:w1.frozen? ⟨w.heap.size,1,none⟩=false:=by rw [hb1.frozen (p:=⟨w.heap.size,1,none⟩) (by simp)]; simp [go_sem]
         have f2:w1.frozen? ⟨w.heap.size,2,none⟩=false:=by rw [hb1.frozen (p:=⟨w.heap.size,2,none⟩) (by simp)]; simp [go_sem]
         have c0:w1.cell? ⟨bb,oo,none⟩=some (.int .i64 9):=by rw [B1.out.cell (p:=⟨bb,oo,none⟩) hlt]; exact e0
         have c1:w1.cell? ⟨bb,oo+1,none⟩=some (.string ⟨#[]⟩):=by rw [B1.out.cell (p:=⟨bb,oo+1,none⟩) hlt]; exact e1
         have c2:w1.cell? ⟨bb,oo+2,none⟩=some (.int .i64 0):=by rw [B1.out.cell (p:=⟨bb,oo+2,none⟩) hlt]; exact e2
         have hbl1:bb < w1.heap.size:=Ap.cell_lt c0;clear hown hk hb1)
      | fail)
    all_goals go_wp2_with fail
    all_goals go_meet
    all_goals first
      | exact ⟨_,rfl,B1.out.size,⟨by simp,by simp,by simp⟩,K1.out.below (below1 _ _),B1.out.alloc B1.out.size _⟩
      | exact ⟨_,rfl,Nat.le_refl _,box_set k0 k1 k2,KB.out _ _ _,((B1.out.setCell (Nat.le_refl _) _).setCell (Nat.le_refl _) _).setCell (Nat.le_refl _) _⟩
  case rest=>
    obtain ⟨B,rfl,hB,hbx,hkd,hbel⟩:=hcut;have BB:=Lib.hid hbel;have BX:=Lib.hid hbx;have KK:=Lib.hid hkd;have HLB:=Lib.hid hB;obtain ⟨x0,x1,x2⟩:=hbx;clear hbel HK e0 e1 e2 hB;obtain ⟨g,ck,y0,rfl,hg,hgB,hgl,hf,q0,r0⟩:=Kd.one hkd;clear hkd;go_wp2_with fail;refine (GO.out _).mono ?_;rintro e w0 ⟨rfl,rfl⟩;go_wp2_with fail;refine Go.wp_loop_rounds 2 ?_;rw [rounds_succ];go_wp2_with fail;refine (PA.out y0 wc (Ap.RdO.rd r0)).mono ?_;rintro e w1 ⟨z,rfl,hn,hb⟩;obtain ⟨_,az,cz,rfl,-⟩:=id hn;have hg1:g < w1.heap.size:=Nat.lt_of_lt_of_le hgl hb.size;have p0:w1.cell? ⟨g,0,none⟩=some y0:=by rw [hb.cell (p:=⟨g,0,none⟩) hgl]; exact q0
    have hf1:∀ j,w1.frozen? ⟨g,j,none⟩=false:=fun j=>by rw [hb.frozen (p:=⟨g,j,none⟩) hgl]; exact hf j
    have f0:=hf1 0;have HF1:=Lib.hid hf1;have X1:=Lib.hid (BX.out.below hb);have D1:=Lib.hid (BB.out.trans (hb.mono BB.out.size));have Z1:=Lib.hid hn;clear hn hb hf hf1;go_wp2_with fail;rw [rounds_succ];have D1s:=Lib.hid (D1.out.setCell (p:=⟨g,0,none⟩) (show w.heap.size≤g from hg) (.slice az (flat (S a)).length cz));have X1s:=Lib.hid (BoxN.set (o:=0) (x:=.slice az (flat (S a)).length cz) X1.out (Ne.symm hgB));obtain ⟨v0,v1,v2⟩:=X1s.out;have ZS:Hid (NdO w.heap.size (w1.setCell ⟨g,0,none⟩ (.slice az (flat (S a)).length cz)) (.slice az (flat (S a)).length cz) (S a)):=Lib.hid (NdO.more (rdo_set Z1.out fun k hk=>by omega) (Nat.le_trans HLB.out (Nat.le_of_lt BX.out.lt)));have s0:=cell_set_eq (x:=.slice az (flat (S a)).length cz) p0;go_wp2_with fail;refine (comes_block w.heap.size (S a) g ck _ _ s0 ZS.out.nds hx D1s.out.size (by have:=HL.out; have:=S_sz a; simp only [sz] at *; omega)).mono ?_;rintro e w3 ⟨u,rfl,hn,hb⟩;have N3:=Lib.hid hn;have D3:=Lib.hid (D1s.out.trans (hb.mono D1s.out.size));clear hn hb;go_wp2_with fail;go_ret;exact ⟨_,rfl,N3.out,D3.out⟩
set_option maxHeartbeats 4000000 in
theorem settled_par (a b:Tm) (v:Value) (w:World) (hv:Nds w v (flat (.par a b))) (PA:Hid (PS a)) (PB:Hid (PS b)) (hl:sz (.par a b)≤400) :
    Calls Tryz.prog 64 #[v] w (OutB w.heap.size (sPar (S a) (S b)) w):=by
  have HK:Hid (∀ w1,Below w.heap.size w w1→Calls Tryz.prog 50 #[v] w1 (Rx.KidsOwn [flat a,flat b] w1)):=Lib.hid fun w1 hb=>by
    have h:=Rx.kidsP_own v (flat (.par a b)) w1 (hv.below hb) (by rw [flat_len]; omega);rw [show kids (flat (.par a b))=[flat a,flat b] from kids_par a b] at h;exact h
  have GO:Hid (∀ w,Calls Tryz.prog 97 #[.int .i64 7] w fun e w'=>e=.returned (.int .i64 2)∧w=w'):=Lib.hid fun w=>goOn_any (.par a b) w
  have HL:Hid (sz (.par a b)≤400):=Lib.hid hl;obtain ⟨bb,oo,cc,rfl,hc,hlt,hw,hat⟩:=form3 hv;obtain ⟨nn,hn⟩:∃ n,sz (.par a b)=n+1:=⟨sz (.par a b) - 1,by have:=sz_pos (.par a b); omega⟩
  rw [hn] at hc HK ⊢;have g3:(1:Int)≤(nn:Int)+1:=by omega
  rw [show kd (.par a b)=7 from rfl,show nmT (.par a b)=⟨#[]⟩ from rfl,show sg (.par a b)=0 from rfl] at hw;obtain ⟨e0,e1,e2⟩:=hw w (Below.refl _ _);unfold OutB;clear hat hv hl hn hw
  go_enter Tryz.func64,Tryz.ntmps64
  go_upto_region 1 with fail
  go_cut [3,4] (fun s3 s4 wx=>∃ (B:Nat),s3=.pointer (some ⟨B,0,none⟩)∧w.heap.size≤B∧BoxN wx B 7 0 ⟨#[]⟩∧Kd w.heap.size B wx s4 [flat a,flat b]∧Below w.heap.size w wx)
  case first=>
    clear GO HL
    go_region_with (first
      | (go_at_call 50
         (with_reducible refine (HK.out _ (Below.refl _ _).drew).mono ?_)
         rintro e w1 ⟨y,cs,rfl,hown,hk,hb1⟩;have B1:=Lib.hid ((Below.refl w.heap.size w).drew.trans hb1);have K1:Hid (Kd w.heap.size w1.heap.size w1 y [flat a,flat b]):=Lib.hid (kd_of hown hk (.inr (Nat.le_refl _)));have c0:w1.cell? ⟨bb,oo,none⟩=some (.int .i64 7):=by rw [B1.out.cell (p:=⟨bb,oo,none⟩) hlt]; exact e0
         have c1:w1.cell? ⟨bb,oo+1,none⟩=some (.string ⟨#[]⟩):=by rw [B1.out.cell (p:=⟨bb,oo+1,none⟩) hlt]; exact e1
         have c2:w1.cell? ⟨bb,oo+2,none⟩=some (.int .i64 0):=by rw [B1.out.cell (p:=⟨bb,oo+2,none⟩) hlt]; exact e2
         have hbl1:bb < w1.heap.size:=Ap.cell_lt c0;clear hown hk hb1)
      | (go_at_call 50
         (refine (HK.out _ ((Below.refl _ _).alloc (Nat.le_refl _) _).drew).mono ?_)
         rintro e w1 ⟨y,cs,rfl,hown,hk,hb1⟩;have B1:=Lib.hid (((Below.refl w.heap.size w).alloc (Nat.le_refl _) _).drew.trans (hb1.mono (by simp)));have KB:Hid (∀ u1 u2 u3:Value,Kd w.heap.size w.heap.size (((w1.setCell ⟨w.heap.size,0,none⟩ u1).setCell ⟨w.heap.size,1,none⟩ u2).setCell ⟨w.heap.size,2,none⟩ u3) y [flat a,flat b]):=Lib.hid fun u1 u2 u3=>((Kd.base (base':=w.heap.size) (B':=w.heap.size) (kd_of (B:=w.heap.size) hown hk (.inl (by simp))) (by simp) (fun k h1 _ e=>by simp at h1; omega)).setB.setB).setB
         have k0:w1.cell? ⟨w.heap.size,0,none⟩=some (.int .i64 0):=by rw [hb1.cell (p:=⟨w.heap.size,0,none⟩) (by simp)]; simp [go_sem]
         have k1:w1.cell? ⟨w.heap.size,1,none⟩=some (.string ⟨#[]⟩):=by rw [hb1.cell (p:=⟨w.heap.size,1,none⟩) (by simp)]; simp [go_sem]
         have k2:w1.cell? ⟨w.heap.size,2,none⟩=some (.int .i64 0):=by rw [hb1.cell (p:=⟨w.heap.size,2,none⟩) (by simp)]; simp [go_sem]
         have f0:w1.frozen? ⟨w.heap.size,0,none⟩=false:=by rw [hb1.frozen (p:=⟨w.heap.size,0,none⟩) (by simp)]; simp [go_sem]
         have f1:w1.frozen? ⟨w.heap.size,1,none⟩=false:=by rw [hb1.frozen (p:=⟨w.heap.size,1,none⟩) (by simp)]; simp [go_sem]
         have f2:w1.frozen? ⟨w.heap.size,2,none⟩=false:=by rw [hb1.frozen (p:=⟨w.heap.size,2,none⟩) (by simp)]; simp [go_sem]
         have c0:w1.cell? ⟨bb,oo,none⟩=some (.int .i64 7):=by rw [B1.out.cell (p:=⟨bb,oo,none⟩) hlt]; exact e0
         have c1:w1.cell? ⟨bb,oo+1,none⟩=some (.string ⟨#[]⟩):=by rw [B1.out.cell (p:=⟨bb,oo+1,none⟩) hlt]; exact e1
         have c2:w1.cell? ⟨bb,oo+2,none⟩=some (.int .i64 0):=by rw [B1.out.cell (p:=⟨bb,oo+2,none⟩) hlt]; exact e2
         have hbl1:bb < w1.heap.size:=Ap.cell_lt c0;clear hown hk hb1)
      | fail)
    all_goals go_wp2_with fail
    all_goals go_meet
    all_goals first
      | exact ⟨_,rfl,B1.out.size,⟨by simp,by simp,by simp⟩,K1.out.below (below1 _ _),B1.out.alloc B1.out.size _⟩
      | exact ⟨_,rfl,Nat.le_refl _,box_set k0 k1 k2,KB.out _ _ _,((B1.out.setCell (Nat.le_refl _) _).setCell (Nat.le_refl _) _).setCell (Nat.le_refl _) _⟩
  case rest=>
    obtain ⟨B,rfl,hB,hbx,hkd,hbel⟩:=hcut;have BB:=Lib.hid hbel;have BX:=Lib.hid hbx;have KK:=Lib.hid hkd;have HLB:=Lib.hid hB;obtain ⟨x0,x1,x2⟩:=hbx;clear hbel HK e0 e1 e2 hB;obtain ⟨g,ck,y0,y1,rfl,hg,hgB,hgl,hf,q0,q1,r0,r1⟩:=Kd.two hkd;clear hkd;go_wp2_with fail;refine (GO.out _).mono ?_;rintro e w0 ⟨rfl,rfl⟩;go_wp2_with fail;refine Go.wp_loop_rounds 3 ?_;rw [rounds_succ];go_wp2_with fail;refine (PA.out y0 wc (Ap.RdO.rd r0)).mono ?_;rintro e w1 ⟨z,rfl,hn,hb⟩;obtain ⟨_,az,cz,rfl,-⟩:=id hn;have hg1:g < w1.heap.size:=Nat.lt_of_lt_of_le hgl hb.size;have p0:w1.cell? ⟨g,0,none⟩=some y0:=by rw [hb.cell (p:=⟨g,0,none⟩) hgl]; exact q0
    have p1:w1.cell? ⟨g,1,none⟩=some y1:=by rw [hb.cell (p:=⟨g,1,none⟩) hgl]; exact q1
    have hf1:∀ j,w1.frozen? ⟨g,j,none⟩=false:=fun j=>by rw [hb.frozen (p:=⟨g,j,none⟩) hgl]; exact hf j
    have f0:=hf1 0;have HF1:=Lib.hid hf1;have X1:=Lib.hid (BX.out.below hb);have D1:=Lib.hid (BB.out.trans (hb.mono BB.out.size));have Z1:=Lib.hid hn;have Y1:=Lib.hid (Ap.RdO.below r1 hb);clear hn hb hf hf1;go_wp2_with fail;rw [rounds_succ];have D1s:=Lib.hid (D1.out.setCell (p:=⟨g,0,none⟩) (show w.heap.size≤g from hg) (.slice az (flat (S a)).length cz));have X1s:=Lib.hid (BoxN.set (o:=0) (x:=(.slice az (flat (S a)).length cz)) X1.out (Ne.symm hgB));have ZS:Hid (NdO w.heap.size (w1.setCell ⟨g,0,none⟩ (.slice az (flat (S a)).length cz)) (.slice az (flat (S a)).length cz) (S a)):=Lib.hid (NdO.more (rdo_set Z1.out fun k hk=>by omega) (Nat.le_trans HLB.out (Nat.le_of_lt BX.out.lt)));have ZG:Hid (Ap.RdO (fun k=>wc.heap.size≤k) (w1.setCell ⟨g,0,none⟩ (.slice az (flat (S a)).length cz)) 3 (.slice az (flat (S a)).length cz) (flat (S a)).length (cls (flat (S a)))):=Lib.hid (rdo_set Z1.out fun k hk=>by omega);have s0:=cell_set_eq (x:=(.slice az (flat (S a)).length cz)) p0;have s1:=(cell_set_o (g:=g) (x:=(.slice az (flat (S a)).length cz)) (show 0≠1 by decide)).trans p1;have YS:=Lib.hid (Ap.RdO.rd (rdo_set (o:=0) (x:=(.slice az (flat (S a)).length cz)) Y1.out fun k hk=>hk.2.2));have hg2:g < (w1.setCell ⟨g,0,none⟩ (.slice az (flat (S a)).length cz)).heap.size:=Ap.cell_lt s0;have hf2:∀ j,(w1.setCell ⟨g,0,none⟩ (.slice az (flat (S a)).length cz)).frozen? ⟨g,j,none⟩=false:=fun j=>by rw [frozen_set]; exact HF1.out j
    go_wp2_with fail;refine (PB.out y1 _ YS.out).mono ?_;generalize w1.setCell ⟨g,0,none⟩ (.slice az (flat (S a)).length cz)=W1 at D1s X1s ZS ZG s0 s1 YS hg2 hf2 ⊢;rintro e w2 ⟨z',rfl,hn,hb⟩;obtain ⟨_,az',cz',rfl,-⟩:=id hn;have t0:w2.cell? ⟨g,0,none⟩=some (.slice az (flat (S a)).length cz):=by rw [hb.cell (p:=⟨g,0,none⟩) hg2]; exact s0
    have t1:w2.cell? ⟨g,1,none⟩=some y1:=by rw [hb.cell (p:=⟨g,1,none⟩) hg2]; exact s1
    have hf3:w2.frozen? ⟨g,1,none⟩=false:=by rw [hb.frozen (p:=⟨g,1,none⟩) hg2]; exact hf2 1
    have X2:=Lib.hid (BoxN.set (o:=1) (x:=.slice az' (flat (S b)).length cz') (X1s.out.below hb) (Ne.symm hgB));have D2:=Lib.hid ((D1s.out.trans (hb.mono D1s.out.size)).setCell (p:=⟨g,1,none⟩) (show w.heap.size≤g from hg) (.slice az' (flat (S b)).length cz'));have ZS2:Hid (NdO w.heap.size (w2.setCell ⟨g,1,none⟩ (.slice az' (flat (S b)).length cz')) (.slice az (flat (S a)).length cz) (S a)):=Lib.hid (Ap.RdO.imp (rdo_set (ZG.out.below hb) fun k hk=>by omega) fun k _ hk=>Nat.le_trans HLB.out (Nat.le_trans (Nat.le_of_lt BX.out.lt) hk));have ZT2:=Lib.hid (Ap.RdO.rd (rdo_set (o:=1) (g:=g) (x:=.slice az' (flat (S b)).length cz') hn fun k hk=>by omega));have u0:=(cell_set_o (g:=g) (x:=.slice az' (flat (S b)).length cz') (show 1≠0 by decide)).trans t0;have u1:=cell_set_eq (x:=.slice az' (flat (S b)).length cz') t1;clear hn hb hf2 s0 s1;go_wp2_with fail;rw [rounds_succ];obtain ⟨v0,v1,v2⟩:=X2.out;go_wp2_with fail;refine (comes_par w.heap.size (S a) (S b) g ck _ _ _ u0 u1 ZS2.out ZT2.out D2.out.size (by have:=HL.out; have:=S_sz a; have:=S_sz b; simp only [sz] at *; omega)).mono ?_;rintro e w3 ⟨u,rfl,hn,hb⟩;have N3:=Lib.hid hn;have D3:=Lib.hid (D2.out.trans (hb.mono D2.out.size));clear hn hb;go_wp2_with fail;go_ret;exact ⟨_,rfl,N3.out,D3.out⟩
theorem settledP_any:∀ t:Tm,sz t≤400→(is t 3=true∨is t 4=true)→PS t:=by
  apply S_ind
  intro t ih hl hi v w hv
  cases t with
  | act s=>exact settled_act s v w hv hl
  | skip=>exact settled_skip v w hv hl
  | throw=>exact settled_throw v w hv hl
  | yield=>exact settled_yield v w hv hl
  | over s=>exact settled_over s v w hv hl
  | fin s c=>exact settled_fin s c v w hv hl
  | alt a b=>exact settled_alt a b v w hv hl
  | pair a b=>exact settled_pair a b v w hv hl
  | seq a b=>
    have hz:sz (.seq a b)=sz a+sz b+1:=rfl;have ia:is a 3=true∨is a 4=true:=by simp [is] at hi; exact hi.imp (·.1) (·.1)
    have ib:is b 3=true∨is b 4=true:=by simp [is] at hi; exact hi.imp (fun h=>(is13 b).1 h.2) (fun h=>(is13 b).2 h.2)
    rw [S_seq];exact settled_seq a b v w hv (Lib.hid (ih a (by omega) (by omega) ia)) (Lib.hid (ih b (by omega) (by omega) ib)) hl
  | hand a b=>
    have hz:sz (.hand a b)=sz a+sz b+1:=rfl;have h3:is a 3=true∧is b 1=true:=by simpa [is] using hi
    rw [S_hand];exact settled_hand a b v w hv (Lib.hid (ih a (by omega) (by omega) (.inl h3.1))) (Lib.hid (ih b (by omega) (by omega) (.inl ((is13 b).1 h3.2)))) (Lib.hid (not14 ((S_is a).1 h3.1))) hl
  | going a b=>
    have hz:sz (.going a b)=sz a+sz b+1:=rfl;have h3:is a 3=true∧is b 1=true:=by simpa [is] using hi
    rw [S_going];exact settled_going a b v w hv (Lib.hid (ih a (by omega) (by omega) (.inl h3.1))) hl
  | stack a b=>
    have hz:sz (.stack a b)=sz a+sz b+1:=rfl;have h3:is a 4=true∧is b 1=true:=by simpa [is] using hi
    rw [S_stack];exact settled_stack a b v w hv (Lib.hid (ih a (by omega) (by omega) (.inr h3.1))) hl
  | par a b=>
    have hz:sz (.par a b)=sz a+sz b+1:=rfl;have ia:is a 3=true∨is a 4=true:=by simp [is] at hi; exact hi.imp (·.1) (·.1)
    have ib:is b 3=true∨is b 4=true:=by simp [is] at hi; exact hi.imp (·.2) (·.2)
    rw [S_par];exact settled_par a b v w hv (Lib.hid (ih a (by omega) (by omega) ia)) (Lib.hid (ih b (by omega) (by omega) ib)) hl
  | block a=>
    have hz:sz (.block a)=sz a+1:=rfl;have h4:is a 4=true:=by simpa [is] using hi
    rw [S_block];refine settled_block a v w hv (Lib.hid (ih a (by omega) (by omega) (.inr h4))) (Lib.hid fun s c e=>?_) hl;have h5:=(S_is a).2 h4;have h6:=S_sz a;rw [e] at h5 h6;simp [is] at h5;simp only [sz] at h6;exact ih c (by omega) (by omega) (.inl ((is13 c).1 h5))
end Go.Proofs.YtaapnkoooofalaaGreat.Se

namespace Go.Proofs.YtaapnkoooofalaaGreat.Sp
open Go Rw So Se Tr Mn Do
structure Mo where
  p:Nat
  h:Int
  l:Option ByteArray
  r:Tm
def upm (f:Tm→Tm) (m:Mo):Mo:=⟨m.p,m.h,m.l,f m.r⟩
def mvs:Bool→Tm→Nat→List Mo
  | _,.act s,i=>[⟨i,1,some s,.over 1⟩]
  | _,.alt a b,i=>[⟨i,2,none,a⟩,⟨i,3,none,b⟩]
  | d,.yield,i=>⟨i,4,none,.over 1⟩::if d then [⟨i,5,none,.over 3⟩] else []
  | d,.pair a b,i=>⟨i,4,none,.going a b⟩::if d then [⟨i,5,none,.fin 3 .skip⟩] else []
  | d,.seq a b,i=>(mvs d a (i+1)).map (upm (.seq · b))
  | d,.hand a b,i=>(mvs d a (i+1)).map (upm (.hand · b))
  | d,.going a b,i=>(mvs d a (i+1)).map (upm (.going · b))
  | d,.stack a b,i=>(mvs d a (i+1)).map (upm (.stack · b))
  | _,.block a,i=>(mvs false a (i+1)).map (upm .block)
  | d,.par a b,i=>(mvs (d || bangT b) a (i+1)).map (upm (.par · b))++(mvs (d || bangT a) b (i+1+sz a)).map (upm (.par a ·))
  | _,_,_=>[]
def lb (o:Option ByteArray):Nat:=match o with | none=>0 | some _=>1
theorem mv_ind {P:Tm→Mo→Prop}
    (act:∀ s i,P (.act s) ⟨i,1,some s,.over 1⟩)
    (altl:∀ a b i,P (.alt a b) ⟨i,2,none,a⟩) (altr:∀ a b i,P (.alt a b) ⟨i,3,none,b⟩)
    (yieldg:∀ i,P .yield ⟨i,4,none,.over 1⟩) (yields:∀ i,P .yield ⟨i,5,none,.over 3⟩)
    (pairg:∀ a b i,P (.pair a b) ⟨i,4,none,.going a b⟩) (pairs:∀ a b i,P (.pair a b) ⟨i,5,none,.fin 3 .skip⟩)
    (seq:∀ a b m,P a m→P (.seq a b) (upm (.seq · b) m)) (hand:∀ a b m,P a m→P (.hand a b) (upm (.hand · b) m))
    (going:∀ a b m,P a m→P (.going a b) (upm (.going · b) m)) (stack:∀ a b m,P a m→P (.stack a b) (upm (.stack · b) m))
    (block:∀ a m,P a m→P (.block a) (upm .block m))
    (parl:∀ a b m,P a m→P (.par a b) (upm (.par · b) m)) (parr:∀ a b m,P b m→P (.par a b) (upm (.par a ·) m)) :
    ∀ (t:Tm) (d:Bool) (i:Nat),∀ m∈mvs d t i,P t m:=by
  intro t
  induction t with
  | act s=>intro d i m hm; simp only [mvs,List.mem_singleton] at hm; rw [hm]; exact act s i
  | alt a b=>intro d i m hm; simp only [mvs,List.mem_cons,List.not_mem_nil,or_false] at hm; rcases hm with rfl | rfl; exact altl a b i; exact altr a b i
  | yield=>intro d i m hm; cases d <;> simp only [mvs,List.mem_cons,List.not_mem_nil,or_false,if_true,Bool.false_eq_true,if_false] at hm; rw [hm]; exact yieldg i; rcases hm with rfl | rfl; exact yieldg i; exact yields i
  | pair a b=>intro d i m hm; cases d <;> simp only [mvs,List.mem_cons,List.not_mem_nil,or_false,if_true,Bool.false_eq_true,if_false] at hm; rw [hm]; exact pairg a b i; rcases hm with rfl | rfl; exact pairg a b i; exact pairs a b i
  | seq a b ia ib=>intro d i m hm; obtain ⟨n,hn,rfl⟩:=List.mem_map.1 hm; exact seq a b n (ia _ _ n hn)
  | hand a b ia ib=>intro d i m hm; obtain ⟨n,hn,rfl⟩:=List.mem_map.1 hm; exact hand a b n (ia _ _ n hn)
  | going a b ia ib=>intro d i m hm; obtain ⟨n,hn,rfl⟩:=List.mem_map.1 hm; exact going a b n (ia _ _ n hn)
  | stack a b ia ib=>intro d i m hm; obtain ⟨n,hn,rfl⟩:=List.mem_map.1 hm; exact stack a b n (ia _ _ n hn)
  | block a ia=>intro d i m hm; obtain ⟨n,hn,rfl⟩:=List.mem_map.1 hm; exact block a n (ia _ _ n hn)
  | par a b ia ib=>
    intro d i m hm
    rcases List.mem_append.1 hm with hm | hm
    · obtain ⟨n,hn,rfl⟩:=List.mem_map.1 hm; exact parl a b n (ia _ _ n hn)
    · obtain ⟨n,hn,rfl⟩:=List.mem_map.1 hm; exact parr a b n (ib _ _ n hn)
  | _=>intro d i m hm; exact absurd hm (by simp [mvs])
theorem mv_sz:∀ (t:Tm) (d:Bool) (i:Nat),∀ m∈mvs d t i,sz m.r≤sz t:=by
  refine mv_ind (P:=fun t m=>sz m.r≤sz t) ?_ ?_ ?_ ?_ ?_ ?_ ?_ ?_ ?_ ?_ ?_ ?_ ?_ ?_
  all_goals intros
  all_goals simp only [upm,sz] at *
  all_goals try omega
  rename_i a b i
  have:=sz_pos a;have:=sz_pos b;omega
theorem mv_is:∀ (t:Tm) (d:Bool) (i:Nat),∀ m∈mvs d t i,(is t 3=true→is m.r 3=true)∧(is t 4=true→is m.r 4=true):=by
  refine mv_ind (P:=fun t m=>(is t 3=true→is m.r 3=true)∧(is t 4=true→is m.r 4=true)) ?_ ?_ ?_ ?_ ?_ ?_ ?_ ?_ ?_ ?_ ?_ ?_ ?_ ?_
  · intro s i; simp [is]
  · intro a b i; have:=is13 a; simp [is]; exact ⟨fun h _=>this.1 h,fun h _=>this.2 h⟩
  · intro a b i; have:=is13 b; simp [is]; exact ⟨fun _ h=>this.1 h,fun _ h=>this.2 h⟩
  · intro i; simp [is]
  · intro i; simp [is]
  · intro a b i; have:=is13 a; simp [is]; exact fun h k=>⟨this.1 h,k⟩
  · intro a b i; simp [is]
  · intro a b m h; simp only [upm,is]; simp; exact ⟨fun x y=>⟨h.1 x,y⟩,fun x y=>⟨h.2 x,y⟩⟩
  · intro a b m h; simp only [upm,is]; simp; exact fun x y=>⟨h.1 x,y⟩
  · intro a b m h; simp only [upm,is]; simp; exact fun x y=>⟨h.1 x,y⟩
  · intro a b m h; simp only [upm,is]; simp; exact fun x y=>⟨h.2 x,y⟩
  · intro a m h; simp only [upm,is]; simp; exact h.2
  · intro a b m h; simp only [upm,is]; simp; exact ⟨fun x y=>⟨h.1 x,y⟩,fun x y=>⟨h.2 x,y⟩⟩
  · intro a b m h; simp only [upm,is]; simp; exact ⟨fun x y=>⟨x,h.1 y⟩,fun x y=>⟨x,h.2 y⟩⟩
theorem mv_rg:∀ (t:Tm) (d:Bool) (i:Nat),∀ m∈mvs d t i,rg t=true→rg m.r=true:=by
  refine mv_ind (P:=fun t m=>rg t=true→rg m.r=true) ?_ ?_ ?_ ?_ ?_ ?_ ?_ ?_ ?_ ?_ ?_ ?_ ?_ ?_
  all_goals intros
  all_goals simp only [upm,rg_seq,rg_alt,rg_hand,rg_par,rg_pair,rg_going,rg_stack,rg_block,rg_fin,rg_over,rg_skip,rgt_nEnd,Bool.and_eq_true] at *
  all_goals first | decide | simp_all
end Go.Proofs.YtaapnkoooofalaaGreat.Sp

namespace Go.Proofs.YtaapnkoooofalaaGreat.Pl
open Go Go.RowKit Rw So Ro
set_option maxRecDepth 20000
theorem cell_new_l (W:World) (v:Value) (t:TypeId):(W.alloc (.cells #[v] t)).cell? ⟨W.heap.size,0,none⟩=some v∧(W.alloc (.cells #[v] t)).frozen? ⟨W.heap.size,0,none⟩=false:=by
  constructor <;> simp
theorem cell_al {W:World} {a:Addr} {v:Value} (o:Obj) (h:W.cell? a=some v∧W.frozen? a=false):(W.alloc o).cell? a=some v∧(W.alloc o).frozen? a=false:=by
  have hb:=below1 W o;exact ⟨by rw [hb.cell (Ap.cell_lt h.1)]; exact h.1,by rw [World.frozen?_of_block (hb.block _ (Ap.cell_lt h.1))]; exact h.2⟩
def Cxs (w:World) (v:Value) (P:List (Nat × Nat)):Prop:=Ap.Rd w 1 v P.length (P.map cx)
theorem turn_frozen {M:Nat→Prop} {w w':World} {p:Addr} {u:Value} (ht:Turn M w w') (hc:w.cell? p=some u) (hn:¬ M p.block):w'.frozen? p=w.frozen? p:=
  World.frozen?_of_block (ht.block _ (Ap.cell_lt hc) hn)
def New1 (A:World) (v u:Value) (w:World):Prop:=∃ g,v=.slice (some ⟨g,0,none⟩) 1 1∧A.heap.size≤g∧w.cell? ⟨g,0,none⟩=some u
theorem rounds_lt {l:List Nd} {k:Nat} (h:k < rounds l):k < l.length:=by
  unfold rounds at h
  split at h
  · exact h
  · omega
/-! ### Points: a point laid onto the row -/
def Mg (vp:Value) (bp:Nat) (i t:Nat):Prop:=(i=6∧vp.ownBlock=some t)∨(i=7∧t=bp)
def Bg (A:World) (vp:Value) (bp bx:Nat) (x:Nat) (w:World):Prop:=w.cell? ⟨bx,0,none⟩=some (.int .i64 (x:Int))∧Turn (fun t=>vp.ownBlock=some t∨t=bp) A w
structure SepG (q:Nat) (A:World) (vp:Value) (bp bx:Nat):Prop where
  hp:∀ g,vp.ownBlock=some g→q≤g∧g < A.heap.size
  hbp:bp < q
  hbx:bx < q
  hne:bx≠bp
  hq:q≤A.heap.size
section
variable {q:Nat} {A:World} {vp va:Value} {bp bx:Nat} {x n:Nat} {P:List (Nat × Nat)}
end
/-! ### One more leaf or not,laid into its box -/
def Ml (bx:Nat) (i t:Nat):Prop:=i=7∧t=bx
def Rl (v:Value) (b p bx:Nat) (x k:Nat) (y:Nd) (i:Nat) (u:Value) (w:World):Prop:=match i with
  | 0=>u=.int .i64 (x:Int)
  | 1=>u=v
  | 2=>u=.int .i64 (k:Int)
  | 3=>u=.pointer (some ⟨b,p,none⟩)
  | 4=>u=.agg #[.int .i64 y.k,.string y.n,.int .i64 y.s]
  | 5=>u=.int .i64 (lf y:Nat)
  | 6=>u=.int .i64 ((x+lf y:Nat):Int)
  | 7=>w.cell? ⟨bx,0,none⟩=some (.int .i64 ((x+lf y:Nat):Int))∧w.frozen? ⟨bx,0,none⟩=false
  | _=>True
def Nl (bx x:Nat) (i:Nat) (w:World):Prop:=match i with
  | 0=>w.cell? ⟨bx,0,none⟩=some (.int .i64 (x:Int))
  | 7=>w.cell? ⟨bx,0,none⟩=some (.int .i64 (x:Int))∧w.frozen? ⟨bx,0,none⟩=false
  | _=>True
def tabL:List (List Nat):=[[],[],[],[1,2],[1,2,3],[1,2,3,4],[0,1,2,3,4,5],[0,1,2,3,4,5,6]]
section
variable {v:Value} {b p bx x k:Nat} {y:Nd} {A:World}
end
end Go.Proofs.YtaapnkoooofalaaGreat.Pl

namespace Go.Proofs.YtaapnkoooofalaaGreat.Se
open Go Go.RowKit Rw So
set_option maxRecDepth 20000
def OutL (l:List Nd) (w:World) (e:Ending) (w':World):Prop:=∃ y,e=.returned y∧Nds w' y l∧Below w.heap.size w w'
theorem nds_nil (w:World):Nds w (.slice none 0 0) []:=⟨rfl,none,0,rfl,Nat.le_refl _,fun _=>⟨rfl,rfl⟩,fun h=>absurd h (Nat.lt_irrefl 0)⟩
theorem Goes.sz {t:Tm} (h:Goes t):Se.sz t≤200:=h.2.1
theorem Goes.len {t:Tm} (h:Goes t):(flat t).length≤200:=by rw [flat_len]; exact h.2.1
set_option maxHeartbeats 1000000 in
theorem settleR_no (v:Value) (l:List Nd) (w:World) (hv:Nds w v l) (hl:l.length≤1000) (hm:Nms l) (h0:of l=0) :
    Calls Tryz.prog 28 #[v] w (OutL [] w):=by
  have HO:=Lib.hid (ofR_any l v w hv hl hm);rw [h0] at HO;obtain ⟨_,a,c,rfl,-⟩:=id hv;unfold OutL;clear h0 hv hm
  go_enter Tryz.func28,Tryz.ntmps28
  go_wp2_with fail;refine HO.out.mono ?_;rintro e w1 ⟨rfl,hb⟩;have B1:=Lib.hid hb;clear hb;go_wp2_with fail;go_ret;exact ⟨_,rfl,nds_nil _,B1.out⟩
set_option maxHeartbeats 1000000 in
theorem settleR_go (v:Value) (t:Tm) (w:World) (hv:Nds w v (flat t)) (hm:Nms (flat t)) (hg:Goes t) :
    Calls Tryz.prog 28 #[v] w (OutL (flat (S t)) w):=by
  have HO:=Lib.hid (ofR_any (flat t) v w hv (by have:=hg.len; omega) hm);have HT:=Lib.hid (fun w1 (hb:Below w.heap.size w w1)=>treeR_any t (by have:=hg.sz; omega) hg.2.2 v w1 (hv.below hb));have h0:=hg.of;have h4:=of_le (flat t);obtain ⟨z,hz⟩:∃ z,of (flat t)=z:=⟨_,rfl⟩
  rw [hz] at HO h0 h4;have f0:((z:Int) == 0)=false:=by rw [beq_eq_false_iff_ne]; omega
  have hs:(flat (S t)).length≤200:=hg.S.len;obtain ⟨L,hL⟩:∃ L,flat (S t)=L:=⟨_,rfl⟩
  unfold OutN at HT;rw [hL] at hs HT ⊢;obtain ⟨m,hmm⟩:∃ m,L.length=m:=⟨_,rfl⟩
  have hs':¬ (200:Int) < (m:Int):=by omega
  have hs2:(m:Int)≤200:=by omega
  have hs3:m≤200:=by omega
  have HM:=Lib.hid hmm;obtain ⟨_,a,c,rfl,-⟩:=id hv;unfold OutL;clear hv hm hz hg hmm hL hs
  go_enter Tryz.func28,Tryz.ntmps28
  go_wp2_with fail;refine HO.out.mono ?_;rintro e w1 ⟨rfl,hb⟩;have B1:=Lib.hid hb;clear hb;go_wp2_with fail;refine (HT.out _ B1.out).mono ?_;rintro e w2 ⟨y,rfl,hn,hb⟩;have B2:=Lib.hid (B1.out.trans (hb.mono B1.out.size));have N2:=Lib.hid hn;obtain ⟨_,a2,c2,rfl,-⟩:=hn;rw [HM.out] at N2 ⊢;clear hb;go_wp2_with fail;go_ret;exact ⟨_,rfl,N2.out,B2.out⟩
set_option maxHeartbeats 1000000 in
theorem settleP_no (v:Value) (l:List Nd) (w:World) (hv:Nds w v l) (hl:l.length≤1000) (hm:Nms l) (h0:of l=0) :
    Calls Tryz.prog 37 #[v] w (OutL [] w):=by
  have HO:=Lib.hid (fun p w1 (hb:Below w.heap.size w w1)=>Sx.onP_any l p v w1 (hv.below hb) hl hm);have e:∀ p,onB l p=false:=fun p=>by unfold onB; rw [h0]; cases p <;> rfl
  have HF:Hid (∀ w1,Below w.heap.size w w1→∀ p,Calls Tryz.prog 12 #[v,.bool p] w1 fun e w'=>e=.returned (.bool false)∧Below w1.heap.size w1 w'):=Lib.hid fun w1 hb p=>by have h:=HO.out p w1 hb; rw [e p] at h; exact h
  obtain ⟨_,a,c,rfl,-⟩:=id hv;unfold OutL;clear h0 hv hm HO e
  go_enter Tryz.func37,Tryz.ntmps37
  go_wp2_with fail;refine (HF.out _ (Below.refl _ _) false).mono ?_;rintro e w1 ⟨rfl,hb⟩;have B1:=Lib.hid hb;clear hb;go_wp2_with fail;refine (HF.out _ B1.out true).mono ?_;rintro e w2 ⟨rfl,hb⟩;have B2:=Lib.hid (B1.out.trans (hb.mono B1.out.size));clear hb;go_wp2_with fail;go_ret;exact ⟨_,rfl,nds_nil _,B2.out⟩
set_option maxHeartbeats 1000000 in
theorem settleP_go (v:Value) (t:Tm) (w:World) (hv:Nds w v (flat t)) (hm:Nms (flat t)) (hg:Goes t) :
    Calls Tryz.prog 37 #[v] w (OutL (flat (S t)) w):=by
  have HO:=Lib.hid (fun p w1 (hb:Below w.heap.size w w1)=>Sx.onP_any (flat t) p v w1 (hv.below hb) (by have:=hg.len; omega) hm);have HT:=Lib.hid (fun w1 (hb:Below w.heap.size w w1)=>settledP_any t (by have:=hg.sz; omega) hg.2.2 v w1 (hv.below hb));have e1:=on_flat hg.1 hg.2.1 false;have e2:=on_flat hg.1 hg.2.1 true;simp only [Bool.false_eq_true,if_false,if_true] at e1 e2;have hi:=hg.2.2
  cases h3:is t 3 with
  | true=>
    rw [h3] at e1;have HF:=Lib.hid (HO.out false w (Below.refl _ _));rw [e1] at HF;obtain ⟨_,a,c,rfl,-⟩:=id hv;unfold OutL;clear hv hm HO e1 e2 hi hg
    go_enter Tryz.func37,Tryz.ntmps37
    go_wp2_with fail;refine HF.out.mono ?_;rintro e w1 ⟨rfl,hb⟩;have B1:=Lib.hid hb;clear hb;go_wp2_with fail;refine (HT.out _ B1.out).mono ?_;rintro e w2 ⟨y,rfl,hn,hb⟩;have B2:=Lib.hid (B1.out.trans (hb.mono B1.out.size));have N2:=Lib.hid hn.nds;clear hb hn;go_wp2_with fail;go_ret;exact ⟨_,rfl,N2.out,B2.out⟩
  | false=>
    rw [h3] at e1;rw [show is t 4=true from hi.resolve_left (by rw [h3]; decide)] at e2;have HF:=Lib.hid (HO.out false w (Below.refl _ _));have HG:=Lib.hid (fun w1 (hb:Below w.heap.size w w1)=>HO.out true w1 hb);rw [e1] at HF;rw [e2] at HG;obtain ⟨_,a,c,rfl,-⟩:=id hv;unfold OutL;clear hv hm HO e1 e2 hi hg
    go_enter Tryz.func37,Tryz.ntmps37
    go_wp2_with fail;refine HF.out.mono ?_;rintro e w1 ⟨rfl,hb⟩;have B1:=Lib.hid hb;clear hb;go_wp2_with fail;refine (HG.out _ B1.out).mono ?_;rintro e w2 ⟨rfl,hb⟩;have B2:=Lib.hid (B1.out.trans (hb.mono B1.out.size));clear hb;go_wp2_with fail;refine (HT.out _ B2.out).mono ?_;rintro e w3 ⟨y,rfl,hn,hb⟩;have B3:=Lib.hid (B2.out.trans (hb.mono B2.out.size));have N3:=Lib.hid hn.nds;clear hb hn;go_wp2_with fail;go_ret;exact ⟨_,rfl,N3.out,B3.out⟩
theorem settledQ_none (a:Option Addr) (c:Nat) (w:World):Calls Tryz.prog 13 #[.slice a 0 c] w fun e w'=>e=.returned (.bool false)∧w=w':=by
  go_enter Tryz.func13,Tryz.ntmps13
  go_wp2_with fail;go_ret;exact ⟨rfl,rfl⟩
set_option maxHeartbeats 1000000 in
theorem settledQ_some (v:Value) (l m:List Nd) (w:World) (hv:Nds w v l) (hl:l.length≤1000) (hm:m.length≤1000) (h0:0 < l.length) (hS:Calls Tryz.prog 37 #[v] w (OutL m w)) :
    Calls Tryz.prog 13 #[v] w fun e w'=>e=.returned (.bool (sameN m l))∧Below w.heap.size w w':=by
  have HS:=Lib.hid hS;have HV:=Lib.hid hv;obtain ⟨_,a,c,rfl,-⟩:=id hv;obtain ⟨n,hn⟩:∃ n,l.length=n+1:=⟨l.length - 1,by omega⟩
  obtain ⟨q,hq⟩:∃ q,sameN m l=q:=⟨_,rfl⟩
  have HP:=Lib.hid (fun y w1 (h1:Nds w1 y m) (h2:Nds w1 (.slice a l.length c) l)=>Rx.sameP_any y (.slice a l.length c) m l w1 h1 h2 (by omega));rw [hq] at HP ⊢;rw [hn] at HS HV HP ⊢;have g1:(0:Int) < (n:Int)+1:=by omega
  have g2:0 < n+1:=by omega
  unfold OutL at HS;clear hS hv hq hn
  go_enter Tryz.func13,Tryz.ntmps13
  go_wp2_with fail;refine HS.out.mono ?_;rintro e w1 ⟨y,rfl,hn,hb⟩;have B1:=Lib.hid hb;have N1:=Lib.hid hn;have V1:=Lib.hid (HV.out.below hb);clear hb hn;go_wp2_with fail;refine (HP.out _ _ N1.out V1.out).mono ?_;rintro e w2 ⟨rfl,hb⟩;have B2:=Lib.hid (B1.out.trans (hb.mono B1.out.size));clear hb;go_wp2_with fail;go_ret;exact ⟨rfl,B2.out⟩
end Go.Proofs.YtaapnkoooofalaaGreat.Se
