/- Laws that the last text leans on. -/
import Derived.Test.YtpingbiibbmcaaaGreatDoorQ42

set_option maxRecDepth 20000
set_option maxHeartbeats 8000000
namespace Go.Proofs.YtpingbiibbmcaaaGreatDoor
namespace Ru
open Go Go.RowKit Rw YtpingbiibbmcaaaGreatDoor.So Se Tr Mn Do Sp Me St
theorem end_law (v pv:Value) (l:List Nd) (ps:List Int) (w:World) (hT:Sg.Tab w) (hv:Nds w v l) (hp:Rw.Ints w pv ps) (hm:Nms l) (hi:∀ z∈ps,In64 z) (hlx:l.length≤9223372036854775807):Calls Tryz.prog 8 #[v,pv] w (Law w):=by
  have HBg:=Lib.hid (x6z v l w hv hm hlx);have HF:=Lib.hid (fun w1 (hb:Below w.heap.size w w1)=>x0i v l w1 (hv.below hb));have HV:=Lib.hid hv;have HPi:=Lib.hid hp;have HT:=Lib.hid hT;have HA:=Lib.hid y0u;unfold Alive at HA;unfold OutL at HBg;obtain ⟨_,va,vc,rfl,-⟩:=id hv;obtain ⟨_,pa,pc,rfl,hpc,hpnil,_⟩:=id hp;unfold Law;clear hv hT hp
  cases hl:Do.fewB l with
  | false=>
    rw [hl] at HF;generalize (if l.length≤1000 then bg l else [])=X at *
    go_enter Tryz.func8,Tryz.ntmps8
    go_wp2_with fail;refine HBg.out.mono ?_;rintro e w1 ⟨y,rfl,hy,hb1⟩;have Y1:=Lib.hid hy;obtain ⟨_,ya,yc,rfl,_⟩:=id hy;have T1:=Lib.hid hb1;clear hb1 hy;go_wp2_with fail;refine (HF.out _ T1.out).mono ?_;rintro e w2 ⟨rfl,rfl⟩;go_wp2_with fail;refine (HA.out _ (Tr.Tab.below HT.out T1.out)).mono ?_;rintro e w3 ⟨rfl,hb3⟩;go_wp2_with fail;go_ret;exact ⟨rfl,T1.out.trans (hb3.mono T1.out.size)⟩
  | true=>
    rw [hl] at HF;have hlen:=few_len hl;rw [if_pos (show l.length≤1000 by omega)] at HBg
    by_cases hz:(bg l).length=0
    · have g0:(((bg l).length:Int)==0)=true:=by rw [beq_iff_eq]; omega
      generalize bg l=X at *
      go_enter Tryz.func8,Tryz.ntmps8
      go_wp2_with fail;refine HBg.out.mono ?_;rintro e w1 ⟨y,rfl,hy,hb1⟩;have Y1:=Lib.hid hy;obtain ⟨_,ya,yc,rfl,_⟩:=id hy;have T1:=Lib.hid hb1;clear hb1 hy;go_wp2_with fail;refine (HF.out _ T1.out).mono ?_;rintro e w2 ⟨rfl,rfl⟩;go_wp2_with fail;refine (HA.out _ (Tr.Tab.below HT.out T1.out)).mono ?_;rintro e w3 ⟨rfl,hb3⟩;go_wp2_with fail;go_ret;exact ⟨rfl,T1.out.trans (hb3.mono T1.out.size)⟩
    · have g0:(((bg l).length:Int)==0)=false:=by rw [beq_eq_false_iff_ne]; omega
      by_cases h1:100<ps.length
      · have g1:(100:Int)<ps.length:=by omega
        generalize bg l=X at *
        go_enter Tryz.func8,Tryz.ntmps8
        go_wp2_with fail;refine HBg.out.mono ?_;rintro e w1 ⟨y,rfl,hy,hb1⟩;have Y1:=Lib.hid hy;obtain ⟨_,ya,yc,rfl,_⟩:=id hy;have T1:=Lib.hid hb1;clear hb1 hy;go_wp2_with fail;refine (HF.out _ T1.out).mono ?_;rintro e w2 ⟨rfl,rfl⟩;go_wp2_with fail;refine (HA.out _ (Tr.Tab.below HT.out T1.out)).mono ?_;rintro e w3 ⟨rfl,hb3⟩;go_wp2_with fail;go_ret;exact ⟨rfl,T1.out.trans (hb3.mono T1.out.size)⟩
      · have g1:¬ (100:Int)<ps.length:=by omega
        obtain ⟨hr,hbg⟩:=begun hz;have hRL:=v3y hr;rw [← hbg] at hRL;have hxl:(bg l).length≤1000:=by have:=bg_len l; omega
        have hxm:Nms (bg l):=by
          obtain ⟨t,e,hg,_⟩:=hRL;rw [e];exact z2c hg.1
        have hEND:=run_end hRL ps;have hM:=x9f (bg l) ps 0;have hN:=x1t (bg l) ps;have hrl:=z5z hxl hxm ps;have hra:=x1u (bg l) ps
        have hin2:∀ z∈ps++[0],In64 z:=fun z hz=>(List.mem_append.1 hz).elim (hi z) (fun h=>by
          rw [List.mem_singleton.1 h];exact ⟨by decide,by decide⟩)
        have HP:=Lib.hid (fun y w1 (hb:Below w.heap.size w w1) (hy:Nds w1 y (bg l))=>z2g y (.slice pa ps.length pc) (bg l) ps w1 hy (HPi.out.below hb) hxl hxm (by omega) hi);have HPm:=Lib.hid (fun y pv2 w1 (_:Below w.heap.size w w1) (hy:Nds w1 y (bg l)) (hp2:Rw.Ints w1 pv2 (ps++[0]))=>z2g y pv2 (bg l) (ps++[0]) w1 hy hp2 hxl hxm (by simp; omega) hin2)
        have app0:∀ w1,Below w.heap.size w w1→∃ v' w',(Builtin.append_ #[23,23] 23 #[.slice pa ps.length ps.length,.slice (some ⟨w1.heap.size,0,none⟩) 1 1]).run Tryz.prog (w1.alloc (.cells #[.int .i64 0] 3))=.ok v' w'∧Rw.Ints w' v' (ps++[0])∧Below w1.heap.size w1 w':=fun w1 hb=>by
          have hu:=Rw.z0b w1 (.cells #[.int .i64 0] 3);obtain ⟨v',w',e1,e2,e3⟩:=x3q ((HPi.out.below hb).below hu) (x5o w1 0) (by simp; omega);exact ⟨v',w',e1,e2,hu.trans (e3.mono hu.size)⟩
        have HTc:=Lib.hid (fun y a w1 (h1:Nds w1 y (play (bg l) ps).l) (h2:Tr.Strs w1 a (play (bg l) ps).a)=>z4u y a (play (bg l) ps) (play (bg l) ps).n w1 h1 h2 (by omega));have HEn:=Lib.hid (fun y w1 (h1:Nds w1 y (play (bg l) ps).l)=>z2i y (play (bg l) ps).l w1 h1 hrl.1 hrl.2);unfold PlP at HP HPm;unfold TrP at HTc;generalize play (bg l) (ps++[0])=M at *;generalize play (bg l) ps=R at *;generalize trR R=tr at *;clear hbg hRL hr hxm hin2;generalize bg l=X at *;have hN64:R.n≤1000:=by have:=hN.1; omega
        cases pa with
        | none=>
          obtain ⟨n0,rfl⟩:=hpnil rfl;rw [n0] at HP app0 g1 hN ⊢;clear n0 h1 hpnil hpc
          cases hq:endB R.l with
          | true=>
            have hno:(enR R.l).length=0:=by rw [hEND.1 hq]; rfl
            have g9:(((enR R.l).length:Int)==0)=true:=by rw [beq_iff_eq]; omega
            have HMN:=Lib.hid (hM.1 (hEND.1 hq));rw [hq] at HTc;clear hEND hM hN hno
            by_cases hlt:(R.n:Int)<(0:Nat)
            · exact absurd hlt (by omega)
            · skip
              go_enter Tryz.func8,Tryz.ntmps8
              go_wp2_with fail;refine HBg.out.mono ?_;rintro e w1 ⟨y,rfl,hy,hb1⟩;have Y1:=Lib.hid hy;obtain ⟨_,ya,yc,rfl,_⟩:=id hy;have T1:=Lib.hid hb1;clear hb1 hy;go_wp2_with fail;refine (HF.out _ T1.out).mono ?_;rintro e w2 ⟨rfl,rfl⟩;go_wp2_with fail;refine (HP.out _ _ T1.out Y1.out).mono ?_;rintro e w3 ⟨y3,a3,rfl,hy3,ha3,hb3⟩;obtain ⟨_,ra,rc,rfl,_⟩:=id hy3;obtain ⟨_,rb,rd,rfl,_⟩:=id ha3;obtain ⟨W4,hW4⟩:∃ W4,w3.alloc (.cells #[.slice ra R.l.length rc,.slice rb R.a.length rd,.int .i64 R.n] 28)=W4:=⟨_,rfl⟩
              have U4:Below w3.heap.size w3 W4:=by rw [← hW4]; exact Rw.z0b w3 _
              have x0:W4.cell? ⟨w3.heap.size,0,none⟩=some (.slice ra R.l.length rc):=by rw [← hW4]; simp [go_sem]
              have x1:W4.cell? ⟨w3.heap.size,1,none⟩=some (.slice rb R.a.length rd):=by rw [← hW4]; simp [go_sem]
              have x2:W4.cell? ⟨w3.heap.size,2,none⟩=some (.int .i64 R.n):=by rw [← hW4]; simp [go_sem]
              have V4:=hb3.trans (U4.mono hb3.size);have T4:=Lib.hid (T1.out.trans (V4.mono T1.out.size));have Y4:=Lib.hid (Y1.out.below V4);have R4:=Lib.hid (hy3.below U4);have HT4:=Lib.hid (HTc.out _ _ W4 (hy3.below U4) (Ap.Rd.below ha3 U4));clear hy3 ha3 hb3 U4 V4;go_wp2_with fail;refine HT4.out.mono ?_;rintro e w5 ⟨v5,rfl,hv5,hb5⟩;obtain ⟨_,va5,vc5,rfl,_⟩:=id hv5;obtain ⟨W6,hW6⟩:∃ W6,w5.alloc (.cells #[.slice va5 tr.a.length vc5,.int .i64 tr.e] 33)=W6:=⟨_,rfl⟩
              have U6:Below w5.heap.size w5 W6:=by rw [← hW6]; exact Rw.z0b w5 _
              have V6:=hb5.trans (U6.mono hb5.size);have T6:=Lib.hid (T4.out.trans (V6.mono T4.out.size));have Y6:=Lib.hid (Y4.out.below V6);have R6:=Lib.hid (R4.out.below V6);have x3:=kc V6 x0;have x5:=kc V6 x2;obtain ⟨v7,w7,hrun,hv7,hb7⟩:=app0 W6 T6.out;have RUN:=Lib.hid hrun;have T7:=Lib.hid (T6.out.trans (hb7.mono T6.out.size));have Y7:=Lib.hid (Y6.out.below hb7);have R7:=Lib.hid (R6.out.below hb7);have HM7:=Lib.hid (HPm.out _ _ w7 T7.out Y7.out hv7);have X7:=Lib.hid (kc hb7 x3);have X8:=Lib.hid (kc hb7 x5);clear x0 x1 x2 hW4 hb5 hv5 U6 V6 hrun hv7 hb7 HT4 T4 Y4 R4 app0;go_wp2_with (at_builtin; refine Ap.wpList_append_run (by rfl) (.tmp 49) (.tmp 50) _ _ rfl _ _ rfl rfl _ w7 RUN.out ?_);refine HM7.out.mono ?_;rintro e w8 ⟨y8,a8,rfl,hy8,ha8,hb8⟩;obtain ⟨_,ma,mc,rfl,_⟩:=id hy8;obtain ⟨_,mb,md,rfl,_⟩:=id ha8;obtain ⟨W9,hW9⟩:∃ W9,w8.alloc (.cells #[.slice ma M.l.length mc,.slice mb M.a.length md,.int .i64 M.n] 28)=W9:=⟨_,rfl⟩
              have U9:Below w8.heap.size w8 W9:=by rw [← hW9]; exact Rw.z0b w8 _
              have z2:W9.cell? ⟨w8.heap.size,2,none⟩=some (.int .i64 M.n):=by rw [← hW9]; simp [go_sem]
              have Z2:=Lib.hid z2;have V9:=hb8.trans (U9.mono hb8.size);have T9:=Lib.hid (T7.out.trans (V9.mono T7.out.size));have R9:=Lib.hid (R7.out.below V9);have X9:=Lib.hid (kc V9 X7.out);have X10:=Lib.hid (kc V9 X8.out);clear hy8 ha8 hb8 U9 V9 HM7 T7 Y7 R7 X7 X8 RUN z2 hW6 x3 x5 T6 Y6 R6;go_wp2_with fail;refine (HA.out _ (Tr.Tab.below HT.out T9.out)).mono ?_;rintro e w10 ⟨rfl,hb10⟩;have T10:=Lib.hid (T9.out.trans (hb10.mono T9.out.size));have R10:=Lib.hid (R9.out.below hb10);have i0:=kc hb10 X9.out;have i2:=kc hb10 X10.out;have j2:=kc hb10 Z2.out;have HE10:=Lib.hid (HEn.out _ w10 R10.out);clear hb10 T9 R9 X9 X10 Z2 hW9;go_wp2_with fail;refine HE10.out.mono ?_;rintro e w11 ⟨ym,rfl,hmv,hb11⟩;obtain ⟨_,am,cm,rfl,-⟩:=id hmv;have T11:=Lib.hid (T10.out.trans (hb11.mono T10.out.size));have k0:=kc hb11 i0;have k2:=kc hb11 i2;have l2:=kc hb11 j2;clear hb11 i0 i2 j2 T10 HE10 hmv R10;rw [HMN.out] at l2;go_wp2_with fail;go_ret;exact ⟨by simp,T11.out⟩
          | false=>
            have hne:enR R.l≠[]:=fun h=>by have:=hEND.2 h; rw [hq] at this; cases this
            have hno:(enR R.l).length≠0:=fun h=>hne (List.eq_nil_of_length_eq_zero h)
            have g9:(((enR R.l).length:Int)==0)=false:=by rw [beq_eq_false_iff_ne]; omega
            have HMN:=Lib.hid (hM.2 hne);have hrn:¬ (R.n:Int)<(0:Nat):=fun h=>hne (hN.2 (by omega))
            rw [hq] at HTc;clear hEND hM hN hno hne
            go_enter Tryz.func8,Tryz.ntmps8
            go_wp2_with fail;refine HBg.out.mono ?_;rintro e w1 ⟨y,rfl,hy,hb1⟩;have Y1:=Lib.hid hy;obtain ⟨_,ya,yc,rfl,_⟩:=id hy;have T1:=Lib.hid hb1;clear hb1 hy;go_wp2_with fail;refine (HF.out _ T1.out).mono ?_;rintro e w2 ⟨rfl,rfl⟩;go_wp2_with fail;refine (HP.out _ _ T1.out Y1.out).mono ?_;rintro e w3 ⟨y3,a3,rfl,hy3,ha3,hb3⟩;obtain ⟨_,ra,rc,rfl,_⟩:=id hy3;obtain ⟨_,rb,rd,rfl,_⟩:=id ha3;obtain ⟨W4,hW4⟩:∃ W4,w3.alloc (.cells #[.slice ra R.l.length rc,.slice rb R.a.length rd,.int .i64 R.n] 28)=W4:=⟨_,rfl⟩
            have U4:Below w3.heap.size w3 W4:=by rw [← hW4]; exact Rw.z0b w3 _
            have x0:W4.cell? ⟨w3.heap.size,0,none⟩=some (.slice ra R.l.length rc):=by rw [← hW4]; simp [go_sem]
            have x1:W4.cell? ⟨w3.heap.size,1,none⟩=some (.slice rb R.a.length rd):=by rw [← hW4]; simp [go_sem]
            have x2:W4.cell? ⟨w3.heap.size,2,none⟩=some (.int .i64 R.n):=by rw [← hW4]; simp [go_sem]
            have V4:=hb3.trans (U4.mono hb3.size);have T4:=Lib.hid (T1.out.trans (V4.mono T1.out.size));have Y4:=Lib.hid (Y1.out.below V4);have R4:=Lib.hid (hy3.below U4);have HT4:=Lib.hid (HTc.out _ _ W4 (hy3.below U4) (Ap.Rd.below ha3 U4));clear hy3 ha3 hb3 U4 V4;go_wp2_with fail;refine HT4.out.mono ?_;rintro e w5 ⟨v5,rfl,hv5,hb5⟩;obtain ⟨_,va5,vc5,rfl,_⟩:=id hv5;obtain ⟨W6,hW6⟩:∃ W6,w5.alloc (.cells #[.slice va5 tr.a.length vc5,.int .i64 tr.e] 33)=W6:=⟨_,rfl⟩
            have U6:Below w5.heap.size w5 W6:=by rw [← hW6]; exact Rw.z0b w5 _
            have V6:=hb5.trans (U6.mono hb5.size);have T6:=Lib.hid (T4.out.trans (V6.mono T4.out.size));have Y6:=Lib.hid (Y4.out.below V6);have R6:=Lib.hid (R4.out.below V6);have x3:=kc V6 x0;have x5:=kc V6 x2;obtain ⟨v7,w7,hrun,hv7,hb7⟩:=app0 W6 T6.out;have RUN:=Lib.hid hrun;have T7:=Lib.hid (T6.out.trans (hb7.mono T6.out.size));have Y7:=Lib.hid (Y6.out.below hb7);have R7:=Lib.hid (R6.out.below hb7);have HM7:=Lib.hid (HPm.out _ _ w7 T7.out Y7.out hv7);have X7:=Lib.hid (kc hb7 x3);have X8:=Lib.hid (kc hb7 x5);clear x0 x1 x2 hW4 hb5 hv5 U6 V6 hrun hv7 hb7 HT4 T4 Y4 R4 app0;go_wp2_with (at_builtin; refine Ap.wpList_append_run (by rfl) (.tmp 49) (.tmp 50) _ _ rfl _ _ rfl rfl _ w7 RUN.out ?_);refine HM7.out.mono ?_;rintro e w8 ⟨y8,a8,rfl,hy8,ha8,hb8⟩;obtain ⟨_,ma,mc,rfl,_⟩:=id hy8;obtain ⟨_,mb,md,rfl,_⟩:=id ha8;obtain ⟨W9,hW9⟩:∃ W9,w8.alloc (.cells #[.slice ma M.l.length mc,.slice mb M.a.length md,.int .i64 M.n] 28)=W9:=⟨_,rfl⟩
            have U9:Below w8.heap.size w8 W9:=by rw [← hW9]; exact Rw.z0b w8 _
            have z2:W9.cell? ⟨w8.heap.size,2,none⟩=some (.int .i64 M.n):=by rw [← hW9]; simp [go_sem]
            have Z2:=Lib.hid z2;have V9:=hb8.trans (U9.mono hb8.size);have T9:=Lib.hid (T7.out.trans (V9.mono T7.out.size));have R9:=Lib.hid (R7.out.below V9);have X9:=Lib.hid (kc V9 X7.out);have X10:=Lib.hid (kc V9 X8.out);clear hy8 ha8 hb8 U9 V9 HM7 T7 Y7 R7 X7 X8 RUN z2 hW6 x3 x5 T6 Y6 R6;go_wp2_with fail;refine (HA.out _ (Tr.Tab.below HT.out T9.out)).mono ?_;rintro e w10 ⟨rfl,hb10⟩;have T10:=Lib.hid (T9.out.trans (hb10.mono T9.out.size));have R10:=Lib.hid (R9.out.below hb10);have i0:=kc hb10 X9.out;have i2:=kc hb10 X10.out;have j2:=kc hb10 Z2.out;have HE10:=Lib.hid (HEn.out _ w10 R10.out);clear hb10 T9 R9 X9 X10 Z2 hW9;go_wp2_with fail;refine HE10.out.mono ?_;rintro e w11 ⟨ym,rfl,hmv,hb11⟩;obtain ⟨_,am,cm,rfl,-⟩:=id hmv;have T11:=Lib.hid (T10.out.trans (hb11.mono T10.out.size));have k0:=kc hb11 i0;have k2:=kc hb11 i2;have l2:=kc hb11 j2;clear hb11 i0 i2 j2 T10 HE10 hmv R10;rw [HMN.out] at l2;go_wp2_with fail;go_ret;exact ⟨by simp,T11.out⟩
        | some ad=>
          cases hq:endB R.l with
          | true=>
            have hno:(enR R.l).length=0:=by rw [hEND.1 hq]; rfl
            have g9:(((enR R.l).length:Int)==0)=true:=by rw [beq_iff_eq]; omega
            have HMN:=Lib.hid (hM.1 (hEND.1 hq));rw [hq] at HTc;clear hEND hM hN hno
            by_cases hlt:(R.n:Int)<ps.length
            · skip
              go_enter Tryz.func8,Tryz.ntmps8
              go_wp2_with fail;refine HBg.out.mono ?_;rintro e w1 ⟨y,rfl,hy,hb1⟩;have Y1:=Lib.hid hy;obtain ⟨_,ya,yc,rfl,_⟩:=id hy;have T1:=Lib.hid hb1;clear hb1 hy;go_wp2_with fail;refine (HF.out _ T1.out).mono ?_;rintro e w2 ⟨rfl,rfl⟩;go_wp2_with fail;refine (HP.out _ _ T1.out Y1.out).mono ?_;rintro e w3 ⟨y3,a3,rfl,hy3,ha3,hb3⟩;obtain ⟨_,ra,rc,rfl,_⟩:=id hy3;obtain ⟨_,rb,rd,rfl,_⟩:=id ha3;obtain ⟨W4,hW4⟩:∃ W4,w3.alloc (.cells #[.slice ra R.l.length rc,.slice rb R.a.length rd,.int .i64 R.n] 28)=W4:=⟨_,rfl⟩
              have U4:Below w3.heap.size w3 W4:=by rw [← hW4]; exact Rw.z0b w3 _
              have x0:W4.cell? ⟨w3.heap.size,0,none⟩=some (.slice ra R.l.length rc):=by rw [← hW4]; simp [go_sem]
              have x1:W4.cell? ⟨w3.heap.size,1,none⟩=some (.slice rb R.a.length rd):=by rw [← hW4]; simp [go_sem]
              have x2:W4.cell? ⟨w3.heap.size,2,none⟩=some (.int .i64 R.n):=by rw [← hW4]; simp [go_sem]
              have V4:=hb3.trans (U4.mono hb3.size);have T4:=Lib.hid (T1.out.trans (V4.mono T1.out.size));have Y4:=Lib.hid (Y1.out.below V4);have R4:=Lib.hid (hy3.below U4);have HT4:=Lib.hid (HTc.out _ _ W4 (hy3.below U4) (Ap.Rd.below ha3 U4));clear hy3 ha3 hb3 U4 V4;go_wp2_with fail;refine HT4.out.mono ?_;rintro e w5 ⟨v5,rfl,hv5,hb5⟩;obtain ⟨_,va5,vc5,rfl,_⟩:=id hv5;obtain ⟨W6,hW6⟩:∃ W6,w5.alloc (.cells #[.slice va5 tr.a.length vc5,.int .i64 tr.e] 33)=W6:=⟨_,rfl⟩
              have U6:Below w5.heap.size w5 W6:=by rw [← hW6]; exact Rw.z0b w5 _
              have V6:=hb5.trans (U6.mono hb5.size);have T6:=Lib.hid (T4.out.trans (V6.mono T4.out.size));have Y6:=Lib.hid (Y4.out.below V6);have R6:=Lib.hid (R4.out.below V6);have x3:=kc V6 x0;have x5:=kc V6 x2;obtain ⟨v7,w7,hrun,hv7,hb7⟩:=app0 W6 T6.out;have RUN:=Lib.hid hrun;have T7:=Lib.hid (T6.out.trans (hb7.mono T6.out.size));have Y7:=Lib.hid (Y6.out.below hb7);have R7:=Lib.hid (R6.out.below hb7);have HM7:=Lib.hid (HPm.out _ _ w7 T7.out Y7.out hv7);have X7:=Lib.hid (kc hb7 x3);have X8:=Lib.hid (kc hb7 x5);clear x0 x1 x2 hW4 hb5 hv5 U6 V6 hrun hv7 hb7 HT4 T4 Y4 R4 app0;go_wp2_with (at_builtin; refine Ap.wpList_append_run (by rfl) (.tmp 49) (.tmp 50) _ _ rfl _ _ rfl rfl _ w7 RUN.out ?_);refine HM7.out.mono ?_;rintro e w8 ⟨y8,a8,rfl,hy8,ha8,hb8⟩;obtain ⟨_,ma,mc,rfl,_⟩:=id hy8;obtain ⟨_,mb,md,rfl,_⟩:=id ha8;obtain ⟨W9,hW9⟩:∃ W9,w8.alloc (.cells #[.slice ma M.l.length mc,.slice mb M.a.length md,.int .i64 M.n] 28)=W9:=⟨_,rfl⟩
              have U9:Below w8.heap.size w8 W9:=by rw [← hW9]; exact Rw.z0b w8 _
              have z2:W9.cell? ⟨w8.heap.size,2,none⟩=some (.int .i64 M.n):=by rw [← hW9]; simp [go_sem]
              have Z2:=Lib.hid z2;have V9:=hb8.trans (U9.mono hb8.size);have T9:=Lib.hid (T7.out.trans (V9.mono T7.out.size));have R9:=Lib.hid (R7.out.below V9);have X9:=Lib.hid (kc V9 X7.out);have X10:=Lib.hid (kc V9 X8.out);clear hy8 ha8 hb8 U9 V9 HM7 T7 Y7 R7 X7 X8 RUN z2 hW6 x3 x5 T6 Y6 R6;go_wp2_with fail;refine (HA.out _ (Tr.Tab.below HT.out T9.out)).mono ?_;rintro e w10 ⟨rfl,hb10⟩;have T10:=Lib.hid (T9.out.trans (hb10.mono T9.out.size));have R10:=Lib.hid (R9.out.below hb10);have i0:=kc hb10 X9.out;have i2:=kc hb10 X10.out;have j2:=kc hb10 Z2.out;have HE10:=Lib.hid (HEn.out _ w10 R10.out);clear hb10 T9 R9 X9 X10 Z2 hW9;go_wp2_with fail;refine HE10.out.mono ?_;rintro e w11 ⟨ym,rfl,hmv,hb11⟩;obtain ⟨_,am,cm,rfl,-⟩:=id hmv;have T11:=Lib.hid (T10.out.trans (hb11.mono T10.out.size));have k0:=kc hb11 i0;have k2:=kc hb11 i2;have l2:=kc hb11 j2;clear hb11 i0 i2 j2 T10 HE10 hmv R10;rw [HMN.out] at l2;go_wp2_with fail;go_ret;exact ⟨by simp,T11.out⟩
            · skip
              go_enter Tryz.func8,Tryz.ntmps8
              go_wp2_with fail;refine HBg.out.mono ?_;rintro e w1 ⟨y,rfl,hy,hb1⟩;have Y1:=Lib.hid hy;obtain ⟨_,ya,yc,rfl,_⟩:=id hy;have T1:=Lib.hid hb1;clear hb1 hy;go_wp2_with fail;refine (HF.out _ T1.out).mono ?_;rintro e w2 ⟨rfl,rfl⟩;go_wp2_with fail;refine (HP.out _ _ T1.out Y1.out).mono ?_;rintro e w3 ⟨y3,a3,rfl,hy3,ha3,hb3⟩;obtain ⟨_,ra,rc,rfl,_⟩:=id hy3;obtain ⟨_,rb,rd,rfl,_⟩:=id ha3;obtain ⟨W4,hW4⟩:∃ W4,w3.alloc (.cells #[.slice ra R.l.length rc,.slice rb R.a.length rd,.int .i64 R.n] 28)=W4:=⟨_,rfl⟩
              have U4:Below w3.heap.size w3 W4:=by rw [← hW4]; exact Rw.z0b w3 _
              have x0:W4.cell? ⟨w3.heap.size,0,none⟩=some (.slice ra R.l.length rc):=by rw [← hW4]; simp [go_sem]
              have x1:W4.cell? ⟨w3.heap.size,1,none⟩=some (.slice rb R.a.length rd):=by rw [← hW4]; simp [go_sem]
              have x2:W4.cell? ⟨w3.heap.size,2,none⟩=some (.int .i64 R.n):=by rw [← hW4]; simp [go_sem]
              have V4:=hb3.trans (U4.mono hb3.size);have T4:=Lib.hid (T1.out.trans (V4.mono T1.out.size));have Y4:=Lib.hid (Y1.out.below V4);have R4:=Lib.hid (hy3.below U4);have HT4:=Lib.hid (HTc.out _ _ W4 (hy3.below U4) (Ap.Rd.below ha3 U4));clear hy3 ha3 hb3 U4 V4;go_wp2_with fail;refine HT4.out.mono ?_;rintro e w5 ⟨v5,rfl,hv5,hb5⟩;obtain ⟨_,va5,vc5,rfl,_⟩:=id hv5;obtain ⟨W6,hW6⟩:∃ W6,w5.alloc (.cells #[.slice va5 tr.a.length vc5,.int .i64 tr.e] 33)=W6:=⟨_,rfl⟩
              have U6:Below w5.heap.size w5 W6:=by rw [← hW6]; exact Rw.z0b w5 _
              have V6:=hb5.trans (U6.mono hb5.size);have T6:=Lib.hid (T4.out.trans (V6.mono T4.out.size));have Y6:=Lib.hid (Y4.out.below V6);have R6:=Lib.hid (R4.out.below V6);have x3:=kc V6 x0;have x5:=kc V6 x2;obtain ⟨v7,w7,hrun,hv7,hb7⟩:=app0 W6 T6.out;have RUN:=Lib.hid hrun;have T7:=Lib.hid (T6.out.trans (hb7.mono T6.out.size));have Y7:=Lib.hid (Y6.out.below hb7);have R7:=Lib.hid (R6.out.below hb7);have HM7:=Lib.hid (HPm.out _ _ w7 T7.out Y7.out hv7);have X7:=Lib.hid (kc hb7 x3);have X8:=Lib.hid (kc hb7 x5);clear x0 x1 x2 hW4 hb5 hv5 U6 V6 hrun hv7 hb7 HT4 T4 Y4 R4 app0;go_wp2_with (at_builtin; refine Ap.wpList_append_run (by rfl) (.tmp 49) (.tmp 50) _ _ rfl _ _ rfl rfl _ w7 RUN.out ?_);refine HM7.out.mono ?_;rintro e w8 ⟨y8,a8,rfl,hy8,ha8,hb8⟩;obtain ⟨_,ma,mc,rfl,_⟩:=id hy8;obtain ⟨_,mb,md,rfl,_⟩:=id ha8;obtain ⟨W9,hW9⟩:∃ W9,w8.alloc (.cells #[.slice ma M.l.length mc,.slice mb M.a.length md,.int .i64 M.n] 28)=W9:=⟨_,rfl⟩
              have U9:Below w8.heap.size w8 W9:=by rw [← hW9]; exact Rw.z0b w8 _
              have z2:W9.cell? ⟨w8.heap.size,2,none⟩=some (.int .i64 M.n):=by rw [← hW9]; simp [go_sem]
              have Z2:=Lib.hid z2;have V9:=hb8.trans (U9.mono hb8.size);have T9:=Lib.hid (T7.out.trans (V9.mono T7.out.size));have R9:=Lib.hid (R7.out.below V9);have X9:=Lib.hid (kc V9 X7.out);have X10:=Lib.hid (kc V9 X8.out);clear hy8 ha8 hb8 U9 V9 HM7 T7 Y7 R7 X7 X8 RUN z2 hW6 x3 x5 T6 Y6 R6;go_wp2_with fail;refine (HA.out _ (Tr.Tab.below HT.out T9.out)).mono ?_;rintro e w10 ⟨rfl,hb10⟩;have T10:=Lib.hid (T9.out.trans (hb10.mono T9.out.size));have R10:=Lib.hid (R9.out.below hb10);have i0:=kc hb10 X9.out;have i2:=kc hb10 X10.out;have j2:=kc hb10 Z2.out;have HE10:=Lib.hid (HEn.out _ w10 R10.out);clear hb10 T9 R9 X9 X10 Z2 hW9;go_wp2_with fail;refine HE10.out.mono ?_;rintro e w11 ⟨ym,rfl,hmv,hb11⟩;obtain ⟨_,am,cm,rfl,-⟩:=id hmv;have T11:=Lib.hid (T10.out.trans (hb11.mono T10.out.size));have k0:=kc hb11 i0;have k2:=kc hb11 i2;have l2:=kc hb11 j2;clear hb11 i0 i2 j2 T10 HE10 hmv R10;rw [HMN.out] at l2;go_wp2_with fail;go_ret;exact ⟨by simp,T11.out⟩
          | false=>
            have hne:enR R.l≠[]:=fun h=>by have:=hEND.2 h; rw [hq] at this; cases this
            have hno:(enR R.l).length≠0:=fun h=>hne (List.eq_nil_of_length_eq_zero h)
            have g9:(((enR R.l).length:Int)==0)=false:=by rw [beq_eq_false_iff_ne]; omega
            have HMN:=Lib.hid (hM.2 hne);have hrn:¬ (R.n:Int)<ps.length:=fun h=>hne (hN.2 (by omega))
            rw [hq] at HTc;clear hEND hM hN hno hne
            go_enter Tryz.func8,Tryz.ntmps8
            go_wp2_with fail;refine HBg.out.mono ?_;rintro e w1 ⟨y,rfl,hy,hb1⟩;have Y1:=Lib.hid hy;obtain ⟨_,ya,yc,rfl,_⟩:=id hy;have T1:=Lib.hid hb1;clear hb1 hy;go_wp2_with fail;refine (HF.out _ T1.out).mono ?_;rintro e w2 ⟨rfl,rfl⟩;go_wp2_with fail;refine (HP.out _ _ T1.out Y1.out).mono ?_;rintro e w3 ⟨y3,a3,rfl,hy3,ha3,hb3⟩;obtain ⟨_,ra,rc,rfl,_⟩:=id hy3;obtain ⟨_,rb,rd,rfl,_⟩:=id ha3;obtain ⟨W4,hW4⟩:∃ W4,w3.alloc (.cells #[.slice ra R.l.length rc,.slice rb R.a.length rd,.int .i64 R.n] 28)=W4:=⟨_,rfl⟩
            have U4:Below w3.heap.size w3 W4:=by rw [← hW4]; exact Rw.z0b w3 _
            have x0:W4.cell? ⟨w3.heap.size,0,none⟩=some (.slice ra R.l.length rc):=by rw [← hW4]; simp [go_sem]
            have x1:W4.cell? ⟨w3.heap.size,1,none⟩=some (.slice rb R.a.length rd):=by rw [← hW4]; simp [go_sem]
            have x2:W4.cell? ⟨w3.heap.size,2,none⟩=some (.int .i64 R.n):=by rw [← hW4]; simp [go_sem]
            have V4:=hb3.trans (U4.mono hb3.size);have T4:=Lib.hid (T1.out.trans (V4.mono T1.out.size));have Y4:=Lib.hid (Y1.out.below V4);have R4:=Lib.hid (hy3.below U4);have HT4:=Lib.hid (HTc.out _ _ W4 (hy3.below U4) (Ap.Rd.below ha3 U4));clear hy3 ha3 hb3 U4 V4;go_wp2_with fail;refine HT4.out.mono ?_;rintro e w5 ⟨v5,rfl,hv5,hb5⟩;obtain ⟨_,va5,vc5,rfl,_⟩:=id hv5;obtain ⟨W6,hW6⟩:∃ W6,w5.alloc (.cells #[.slice va5 tr.a.length vc5,.int .i64 tr.e] 33)=W6:=⟨_,rfl⟩
            have U6:Below w5.heap.size w5 W6:=by rw [← hW6]; exact Rw.z0b w5 _
            have V6:=hb5.trans (U6.mono hb5.size);have T6:=Lib.hid (T4.out.trans (V6.mono T4.out.size));have Y6:=Lib.hid (Y4.out.below V6);have R6:=Lib.hid (R4.out.below V6);have x3:=kc V6 x0;have x5:=kc V6 x2;obtain ⟨v7,w7,hrun,hv7,hb7⟩:=app0 W6 T6.out;have RUN:=Lib.hid hrun;have T7:=Lib.hid (T6.out.trans (hb7.mono T6.out.size));have Y7:=Lib.hid (Y6.out.below hb7);have R7:=Lib.hid (R6.out.below hb7);have HM7:=Lib.hid (HPm.out _ _ w7 T7.out Y7.out hv7);have X7:=Lib.hid (kc hb7 x3);have X8:=Lib.hid (kc hb7 x5);clear x0 x1 x2 hW4 hb5 hv5 U6 V6 hrun hv7 hb7 HT4 T4 Y4 R4 app0;go_wp2_with (at_builtin; refine Ap.wpList_append_run (by rfl) (.tmp 49) (.tmp 50) _ _ rfl _ _ rfl rfl _ w7 RUN.out ?_);refine HM7.out.mono ?_;rintro e w8 ⟨y8,a8,rfl,hy8,ha8,hb8⟩;obtain ⟨_,ma,mc,rfl,_⟩:=id hy8;obtain ⟨_,mb,md,rfl,_⟩:=id ha8;obtain ⟨W9,hW9⟩:∃ W9,w8.alloc (.cells #[.slice ma M.l.length mc,.slice mb M.a.length md,.int .i64 M.n] 28)=W9:=⟨_,rfl⟩
            have U9:Below w8.heap.size w8 W9:=by rw [← hW9]; exact Rw.z0b w8 _
            have z2:W9.cell? ⟨w8.heap.size,2,none⟩=some (.int .i64 M.n):=by rw [← hW9]; simp [go_sem]
            have Z2:=Lib.hid z2;have V9:=hb8.trans (U9.mono hb8.size);have T9:=Lib.hid (T7.out.trans (V9.mono T7.out.size));have R9:=Lib.hid (R7.out.below V9);have X9:=Lib.hid (kc V9 X7.out);have X10:=Lib.hid (kc V9 X8.out);clear hy8 ha8 hb8 U9 V9 HM7 T7 Y7 R7 X7 X8 RUN z2 hW6 x3 x5 T6 Y6 R6;go_wp2_with fail;refine (HA.out _ (Tr.Tab.below HT.out T9.out)).mono ?_;rintro e w10 ⟨rfl,hb10⟩;have T10:=Lib.hid (T9.out.trans (hb10.mono T9.out.size));have R10:=Lib.hid (R9.out.below hb10);have i0:=kc hb10 X9.out;have i2:=kc hb10 X10.out;have j2:=kc hb10 Z2.out;have HE10:=Lib.hid (HEn.out _ w10 R10.out);clear hb10 T9 R9 X9 X10 Z2 hW9;go_wp2_with fail;refine HE10.out.mono ?_;rintro e w11 ⟨ym,rfl,hmv,hb11⟩;obtain ⟨_,am,cm,rfl,-⟩:=id hmv;have T11:=Lib.hid (T10.out.trans (hb11.mono T10.out.size));have k0:=kc hb11 i0;have k2:=kc hb11 i2;have l2:=kc hb11 j2;clear hb11 i0 i2 j2 T10 HE10 hmv R10;rw [HMN.out] at l2;go_wp2_with fail;go_ret;exact ⟨by simp,T11.out⟩
end Ru
end Go.Proofs.YtpingbiibbmcaaaGreatDoor
