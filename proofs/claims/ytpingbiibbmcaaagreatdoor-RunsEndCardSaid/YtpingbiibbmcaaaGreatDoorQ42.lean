/- Laws that the last text leans on. -/
import Derived.Test.YtpingbiibbmcaaaGreatDoorQ41

set_option maxRecDepth 20000
set_option maxHeartbeats 8000000
namespace Go.Proofs.YtpingbiibbmcaaaGreatDoor
namespace Ru
open Go Go.RowKit Rw YtpingbiibbmcaaaGreatDoor.So Se Tr Mn Do Sp Me St
theorem y6e (l:List Nd) (x:Tr) (hx:x∈MtR l):x.a.length≤6:=by
  unfold MtR at hx
  by_cases h:why l false=0
  · rw [if_pos h] at hx;exact (z8g h).2 x hx
  · rw [if_neg h] at hx; cases hx
theorem y0j:∀ (n:Nat) (l:List Nd) (t:Tr) (ks:List Nat),l.length≤1000→findN n l t=some ks→∀ k∈ks,k≤1000000
  | 0,_,_,_,_,h=>by cases h
  | n+1,l,t,ks,hl,h=>by
    unfold findN at h
    split at h
    · cases h; intro k hk; cases hk
    · split at h
      · cases h
      · rename_i k hk
        split at h
        · cases h
        · rename_i m hm
          obtain ⟨hlt,hme⟩:=List.getElem?_eq_some_iff.1 hm;have hmin:m∈enR l:=by rw [← hme]; exact List.getElem_mem hlt
          cases hf:findN n (nxL l m) ((restR t m.h (nxS l m)).getD t) with
          | none=>rw [hf] at h; cases h
          | some ks'=>
            rw [hf] at h
            cases h
            intro j hj
            rcases List.mem_cons.1 hj with rfl | hj
            · have:=z7f l; omega
            · exact y0j n _ _ ks' (by have:=(en_kind hmin).2.2.2.1; omega) hf j hj
theorem find_in {l:List Nd} {t:Tr} {ks:List Nat} (hl:l.length≤1000) (h:findR l t=some ks):∀ z∈ks.map Int.ofNat,In64 z:=fun z hz=>by
  obtain ⟨k,hk',rfl⟩:=List.mem_map.1 hz
  have h2:findN (l.length+1) l t=some ks:=by
    unfold findR at h
    split at h
    · exact h
    · cases h
  have:=y0j _ l t ks hl h2 k hk';unfold In64;simp only [Int.ofNat_eq_natCast];omega
theorem each_law (v tv:Value) (l:List Nd) (t:Tr) (w:World) (hT:Sg.Tab w) (hv:Nds w v l) (ht:Tr.Strs w tv t.a) (hm:Nms l):Calls Tryz.prog 7 #[v,.agg #[tv,.int .i64 t.e]] w (Law w):=by
  have HB1:=Lib.hid (fun x=>Rw.z0b w (.cells #[x,.int .i64 t.e] 36));have HL:=Lib.hid (fun w1 (hb:Below w.heap.size w w1)=>x5u v l w1 (hv.below hb));have HV:=Lib.hid hv;have HS:=Lib.hid ht;have HT:=Lib.hid hT;have HA:=Lib.hid y0u;unfold Alive at HA;obtain ⟨_,va,vc,rfl,-⟩:=id hv;obtain ⟨_,ta,tc,rfl,-⟩:=id ht;have c0:(w.alloc (.cells #[.slice ta t.a.length tc,.int .i64 t.e] 36)).cell? ⟨w.heap.size,0,none⟩=some (.slice ta t.a.length tc):=by simp [go_sem]
  have c1:(w.alloc (.cells #[.slice ta t.a.length tc,.int .i64 t.e] 36)).cell? ⟨w.heap.size,1,none⟩=some (.int .i64 t.e):=by simp [go_sem]
  unfold Law;clear hv hT ht
  cases hl:litB l with
  | false=>
    rw [hl] at HL;have D1:=Lib.hid (HB1.out (.slice ta t.a.length tc))
    go_enter Tryz.func7,Tryz.ntmps7
    go_wp2_with fail;refine (HL.out _ (HB1.out _)).mono ?_;rintro e w1 ⟨rfl,hb1⟩;have T1:=Lib.hid (D1.out.trans (hb1.mono D1.out.size));clear hb1;go_wp2_with fail;refine (HA.out _ (Tr.Tab.below HT.out T1.out)).mono ?_;rintro e w2 ⟨rfl,hb2⟩;go_wp2_with fail;go_ret;exact ⟨rfl,T1.out.trans (hb2.mono T1.out.size)⟩
  | true=>
    rw [hl] at HL;have hlen:=lit_len hl;have HC:=Lib.hid (fun y w1 (hb:Below w.heap.size w w1) hy=>Rx.z7h (.slice va l.length vc) y l [1] w1 (HV.out.below hb) hy (by omega) (by simp));generalize cnt l [1]=n at HC;clear hl;have D1:=Lib.hid (HB1.out (.slice ta t.a.length tc))
    by_cases h4:n≤4
    · have g4:¬ (4:Int)<n:=by omega
      by_cases h1:t.a.length≤100
      · have g1:¬ (100:Int)<t.a.length:=by omega
        have HP:=Lib.hid (fun w1 (hb:Below w.heap.size w w1)=>y4u (.slice va l.length vc) l w1 (HV.out.below hb) (by omega) hm);have HFt:=Lib.hid (fun w1 (hb:Below w.heap.size w w1)=>y0i (.slice va l.length vc) (.slice ta t.a.length tc) l t w1 (HV.out.below hb) (Ap.Rd.below HS.out hb) (by omega) hm (by omega));unfold AlP at HP;unfold FiP at HFt
        by_cases he:errR l=0
        · have hallR:allR l=MtR l:=if_pos he;rw [hallR,he] at HP;have HFx:=Lib.hid (fun (x:Tr) (hx:x∈MtR l) xv w1 (hb:Below w.heap.size w w1) (h:Tr.Strs w1 xv x.a)=>y0i (.slice va l.length vc) xv l x w1 (HV.out.below hb) h (by omega) hm (by have:=y6e l x hx; omega));unfold FiP at HFx;have HPl:=Lib.hid (fun (x:Tr) (ks:List Nat) (h:findR l x=some ks) pv w1 (hb:Below w.heap.size w w1) (hp:Rw.Ints w1 pv (ks.map Int.ofNat))=>z2g (.slice va l.length vc) pv l (ks.map Int.ofNat) w1 (HV.out.below hb) hp (by omega) hm (by rw [List.length_map]; have:=(found h).2.2.2.1; omega) (find_in (by omega) h));unfold PlP at HPl
          have HFd:=Lib.hid (fun (x:Tr) (hx:x∈MtR l)=>show ∃ ks,findR l x=some ks by
            obtain ⟨ks,k1,_⟩:=z7c he hx;exact ⟨ks,k1⟩)
          have HIS:=Lib.hid (show (findR l t).isSome=hasT (MtR l) t by
            rw [Bool.eq_iff_iff,v2i,z1p];exact ⟨fun h=>h.2,fun h=>⟨he,h⟩⟩)
          have HFw:=Lib.hid (few_mtr l);have HShort:=Lib.hid (fun x hx=>y6e l x hx);generalize MtR l=R at *;clear hallR
          go_enter Tryz.func7,Tryz.ntmps7
          go_wp2_with fail;refine (HL.out _ (HB1.out _)).mono ?_;rintro e w1 ⟨rfl,hb1⟩;have T1:=Lib.hid (D1.out.trans (hb1.mono D1.out.size));have d0:=kc hb1 c0;have d1:=kc hb1 c1;clear hb1 c0 c1;have U2:=Rw.z0b w1 (.cells #[.int .i64 1] 3);have T2:=Lib.hid (T1.out.trans (U2.mono T1.out.size));go_wp2_with fail;refine (HC.out _ _ T2.out (x5o w1 1)).mono ?_;rintro e w3 ⟨rfl,hb3⟩;have T3:=Lib.hid (T2.out.trans (hb3.mono T2.out.size));have d3:=kc hb3 (kc U2 d0);have d4:=kc hb3 (kc U2 d1);clear hb3 U2 d0 d1;go_wp2_with fail;refine (HP.out _ T3.out).mono ?_;rintro e w4 ⟨y,rfl,hy,hb4⟩;have T4:=Lib.hid (T3.out.trans (hb4.mono T3.out.size));obtain ⟨ya,yc,rfl,_,hyat⟩:=hy.val;have Y4:=Lib.hid hy;have YA:=Lib.hid hyat;have e3:=kc hb4 d3;have e4:=kc hb4 d4;have EE:=Lib.hid (fun w' (h:Below w4.heap.size w4 w')=>(⟨kc h e3,kc h e4⟩:_∧_));clear hb4 d3 d4 hy hyat HP HL HC;go_wp2_with fail
          go_loopw [53] (fun i wr=>∃ k:Nat,k≤R.length∧i=.int .i64 k∧Hid (Below w4.heap.size w4 wr)) (fun i _=>R.length-(intOf i).toNat)
          case atStart=>exact ⟨0,Nat.zero_le _,rfl,Lib.hid (Below.refl _ _)⟩
          case round=>
            obtain ⟨k,hk,rfl,HB⟩:=hrel
            by_cases hlt:k<R.length
            · obtain ⟨b1,o1,xv,rfl,p1,p2,hs⟩:=YA.out k hlt;have q1:wr.cell? ⟨b1,o1+k*2,none⟩=some xv:=by rw [Nat.mul_comm k 2,HB.out.cell (Ap.z0a p1)]; exact p1
              have q2:wr.cell? ⟨b1,o1+k*2+1,none⟩=some (.int .i64 R[k].e):=by rw [Nat.mul_comm k 2,HB.out.cell (Ap.z0a p2)]; exact p2
              have hsr:Tr.Strs wr xv R[k].a:=Ap.Rd.below hs HB.out;have hin:=List.getElem_mem hlt;have hkl:(k:Int)<R.length:=by omega
              have hRl:=HFw.out.1;obtain ⟨ks,hks⟩:=HFd.out _ hin;have hsh:=HShort.out _ hin;have TB:=T4.out.trans (HB.out.mono T4.out.size);have HFk:=Lib.hid (fun o=>HFx.out _ hin xv (wr.alloc o) (TB.trans ((Rw.z0b wr o).mono TB.size)) (Ap.Rd.below hsr (Rw.z0b wr o)));rw [hks] at HFk;obtain ⟨f1,f2,-,f4,-,-⟩:=found hks;have HPk:=Lib.hid (fun pv w1 hb hp=>HPl.out _ ks hks pv w1 hb hp);generalize R[k]=x at *;have hrl:=z5z (show l.length≤1000 by omega) hm (ks.map Int.ofNat);have hra:=x1u l (ks.map Int.ofNat);rw [List.length_map] at hra;generalize play l (ks.map Int.ofNat)=P at *;have TB':=Lib.hid TB;obtain ⟨_,xa,xc,rfl,_⟩:=id hsr;have U5:=Rw.z0b wr (.cells #[.slice xa x.a.length xc,.int .i64 x.e] 33);have X5:=Lib.hid (Ap.Rd.below hsr U5);have T5:=Lib.hid (TB.trans (U5.mono TB.size));have V5:=Lib.hid (HB.out.trans (U5.mono HB.out.size));have u0:(wr.alloc (.cells #[.slice xa x.a.length xc,.int .i64 x.e] 33)).cell? ⟨wr.heap.size,0,none⟩=some (.slice xa x.a.length xc):=by simp [go_sem]
              have u1:(wr.alloc (.cells #[.slice xa x.a.length xc,.int .i64 x.e] 33)).cell? ⟨wr.heap.size,1,none⟩=some (.int .i64 x.e):=by simp [go_sem]
              clear p1 p2 hs hsr TB U5 HFx HPl HFd;go_wp2_with fail;refine (HFk.out _).mono ?_;rintro e w6 ⟨pv,rfl,hpv,hb6⟩;have T6:=Lib.hid (T5.out.trans (hb6.mono T5.out.size));have V6:=Lib.hid (V5.out.trans (hb6.mono V5.out.size));have X6:=Lib.hid (Ap.Rd.below X5.out hb6);have HPc:=Lib.hid (HPk.out pv w6 T6.out hpv);have hpv':Rw.Ints w6 pv (ks.map Int.ofNat):=hpv;obtain ⟨_,pa,pc,hpe,_⟩:=hpv';rw [List.length_map] at hpe;subst hpe;have u2:=kc hb6 u0;have u3:=kc hb6 u1;clear hb6 hpv T5 V5 X5 u0 u1 HFk HPk;go_wp2_with fail;refine HPc.out.mono ?_;rintro e w7 ⟨y7,a7,rfl,hy7,ha7,hb7⟩;have T7:=Lib.hid (T6.out.trans (hb7.mono T6.out.size));have V7:=Lib.hid (V6.out.trans (hb7.mono V6.out.size));have X7:=Lib.hid (Ap.Rd.below X6.out hb7);have u4:=kc hb7 u2;have u5:=kc hb7 u3;have HTc:=Lib.hid (z4u y7 a7 P P.n w7 hy7 ha7 (by omega));unfold TrP at HTc;rw [f1,f2] at HTc;obtain ⟨_,ya7,yc7,rfl,_⟩:=id hy7;obtain ⟨_,aa7,ac7,rfl,_⟩:=id ha7;clear hb7 hy7 ha7 T6 V6 X6 u2 u3 HPc;go_wp2_with fail;refine HTc.out.mono ?_;rintro e w8 ⟨v8,rfl,hv8,hb8⟩;obtain ⟨_,va8,vc8,rfl,_⟩:=id hv8;have U9:=Rw.z0b w8 (.cells #[.slice va8 x.a.length vc8,.int .i64 x.e] 33);have W9:=hb8.trans (U9.mono hb8.size);have T9:=Lib.hid (T7.out.trans (W9.mono T7.out.size));have V9:=Lib.hid (V7.out.trans (W9.mono V7.out.size));have X9:=Lib.hid (Ap.Rd.below X7.out W9);have Z9:=Lib.hid (Ap.Rd.below hv8 U9);have u6:=kc W9 u4;have u7:=kc W9 u5;have u8:(w8.alloc (.cells #[.slice va8 x.a.length vc8,.int .i64 x.e] 33)).cell? ⟨w8.heap.size,0,none⟩=some (.slice va8 x.a.length vc8):=by simp [go_sem]
              have u9:(w8.alloc (.cells #[.slice va8 x.a.length vc8,.int .i64 x.e] 33)).cell? ⟨w8.heap.size,1,none⟩=some (.int .i64 x.e):=by simp [go_sem]
              clear hb8 hv8 T7 V7 X7 u4 u5 HTc U9 W9;go_wp2_with fail;refine (x0m _ _ x x _ Z9.out X9.out (by omega) (by omega)).mono ?_;rw [z3g];rintro e w10 ⟨rfl,hb10⟩;have V10:=Lib.hid (V9.out.trans (hb10.mono V9.out.size));clear hb10 u6 u7 u8 u9;go_wp2_with fail;have hk1:k+1≤R.length:=hlt
              go_roundw
              case rel=>exact ⟨k+1,hk1,by go_num,V10⟩
              case measure=>simp [intOf]; omega
            · obtain ⟨g5,g6⟩:=EE.out wr HB.out;have TB:=Lib.hid (T4.out.trans (HB.out.mono T4.out.size));have YB:=Lib.hid (Y4.out.below HB.out);obtain ⟨q,hq⟩:∃ q,hasT R t=q:=⟨_,rfl⟩
              rw [hq] at HIS;have HQ:=Lib.hid hq;rw [HIS.out] at HFt;clear hq;go_wp2_with fail;refine (HFt.out _ TB.out).mono ?_;rintro e w5 ⟨pv,rfl,hpv,hb5⟩;have T5:=Lib.hid (TB.out.trans (hb5.mono TB.out.size));have Y5:=Lib.hid (YB.out.below hb5);have g7:=kc hb5 g5;have g8:=kc hb5 g6;obtain ⟨_,pa,pc,rfl,_⟩:=id hpv;clear hb5 hpv g5 g6 TB YB;go_wp2_with fail;refine (HA.out _ (Tr.Tab.below HT.out T5.out)).mono ?_;rintro e w6 ⟨rfl,hb6⟩;have T6:=Lib.hid (T5.out.trans (hb6.mono T5.out.size));have Y6:=Lib.hid (Y5.out.below hb6);have S6:=Lib.hid (Ap.Rd.below HS.out T6.out);have g9:=kc hb6 g7;have g10:=kc hb6 g8;clear hb6 g7 g8 T5 Y5;go_wp2_with fail;refine (hasT_any _ _ R t _ Y6.out S6.out (by have:=HFw.out.1; omega) HFw.out.2 (by omega)).mono ?_;rw [show (R.any fun u=>cmp u t==0)=q from HQ.out];rintro e w7 ⟨rfl,hb7⟩;go_wp2_with fail;go_ret;exact ⟨by simp,T6.out.trans (hb7.mono T6.out.size)⟩
        · have hnf:findR l t=none:=by
            cases hf:findR l t with
            | none=>rfl
            | some ks=>exact absurd (found hf).2.2.2.2.1 he
          rw [hnf] at HFt;generalize errR l=er at *;generalize allR l=R at *
          go_enter Tryz.func7,Tryz.ntmps7
          go_wp2_with fail;refine (HL.out _ (HB1.out _)).mono ?_;rintro e w1 ⟨rfl,hb1⟩;have T1:=Lib.hid (D1.out.trans (hb1.mono D1.out.size));have d0:=kc hb1 c0;have d1:=kc hb1 c1;clear hb1 c0 c1;have U2:=Rw.z0b w1 (.cells #[.int .i64 1] 3);have T2:=Lib.hid (T1.out.trans (U2.mono T1.out.size));go_wp2_with fail;refine (HC.out _ _ T2.out (x5o w1 1)).mono ?_;rintro e w3 ⟨rfl,hb3⟩;have T3:=Lib.hid (T2.out.trans (hb3.mono T2.out.size));have d3:=kc hb3 (kc U2 d0);have d4:=kc hb3 (kc U2 d1);clear hb3 U2 d0 d1;go_wp2_with fail;refine (HP.out _ T3.out).mono ?_;rintro e w4 ⟨y,rfl,hy,hb4⟩;have T4:=Lib.hid (T3.out.trans (hb4.mono T3.out.size));obtain ⟨ya,yc,rfl,_⟩:=hy.val;have e3:=kc hb4 d3;have e4:=kc hb4 d4;clear hb4 d3 d4 hy;go_wp2_with fail;refine (HFt.out _ T4.out).mono ?_;rintro e w5 ⟨p,rfl,hp,hb5⟩;have T5:=Lib.hid (T4.out.trans (hb5.mono T4.out.size));obtain ⟨_,pa,pc,rfl,_⟩:=id hp;clear hb5 hp;go_wp2_with fail;refine (HA.out _ (Tr.Tab.below HT.out T5.out)).mono ?_;rintro e w6 ⟨rfl,hb6⟩;go_wp2_with fail;go_ret;exact ⟨rfl,T5.out.trans (hb6.mono T5.out.size)⟩
      · have g1:(100:Int)<t.a.length:=by omega
        go_enter Tryz.func7,Tryz.ntmps7
        go_wp2_with fail;refine (HL.out _ (HB1.out _)).mono ?_;rintro e w1 ⟨rfl,hb1⟩;have T1:=Lib.hid (D1.out.trans (hb1.mono D1.out.size));have d0:=kc hb1 c0;clear hb1 c0;have U2:=Rw.z0b w1 (.cells #[.int .i64 1] 3);have T2:=Lib.hid (T1.out.trans (U2.mono T1.out.size));go_wp2_with fail;refine (HC.out _ _ T2.out (x5o w1 1)).mono ?_;rintro e w3 ⟨rfl,hb3⟩;have T3:=Lib.hid (T2.out.trans (hb3.mono T2.out.size));have d3:=kc hb3 (kc U2 d0);clear hb3 U2;go_wp2_with fail;refine (HA.out _ (Tr.Tab.below HT.out T3.out)).mono ?_;rintro e w4 ⟨rfl,hb4⟩;go_wp2_with fail;go_ret;exact ⟨rfl,T3.out.trans (hb4.mono T3.out.size)⟩
    · have g4:(4:Int)<n:=by omega
      go_enter Tryz.func7,Tryz.ntmps7
      go_wp2_with fail;refine (HL.out _ (HB1.out _)).mono ?_;rintro e w1 ⟨rfl,hb1⟩;have T1:=Lib.hid (D1.out.trans (hb1.mono D1.out.size));clear hb1;have U2:=Rw.z0b w1 (.cells #[.int .i64 1] 3);have T2:=Lib.hid (T1.out.trans (U2.mono T1.out.size));go_wp2_with fail;refine (HC.out _ _ T2.out (x5o w1 1)).mono ?_;rintro e w3 ⟨rfl,hb3⟩;have T3:=Lib.hid (T2.out.trans (hb3.mono T2.out.size));clear hb3 U2;go_wp2_with fail;refine (HA.out _ (Tr.Tab.below HT.out T3.out)).mono ?_;rintro e w4 ⟨rfl,hb4⟩;go_wp2_with fail;go_ret;exact ⟨rfl,T3.out.trans (hb4.mono T3.out.size)⟩
structure RnM (w:World) (y a:Value) (r:Rn):Prop where
  l:Nds w y r.l
  a:Tr.Strs w a r.a
structure Bx (w:World) (b c:Nat) (y a y2 a2:Value) (n:Int):Prop where
  c0:w.cell? ⟨b,0,none⟩=some y
  c1:w.cell? ⟨b,1,none⟩=some a
  c2:w.cell? ⟨b,2,none⟩=some (.int .i64 n)
  d0:w.cell? ⟨c,0,none⟩=some y2
  d1:w.cell? ⟨c,1,none⟩=some a2
  d2:w.cell? ⟨c,2,none⟩=some (.int .i64 n)

theorem x3q {w:World} {a:Option Addr} {c:Nat} {y:Value} {A B:List Int} (hx:Rw.Ints w (.slice a A.length c) A) (hy:Rw.Ints w y B) (hlen:A.length+B.length≤2000000000000) :
    ∃ v' w',(Builtin.append_ #[23,23] 23 #[.slice a A.length A.length,y]).run Tryz.prog w=.ok v' w'∧Rw.Ints w' v' (A++B)∧Below w.heap.size w w':=by
  obtain ⟨i0,hi,hz,hs1,hb8⟩:=info_parts v1t
  have hr:Ap.Rd w 1 (.slice a A.length A.length) A.length (A.map (.int .i64)):=by
    obtain ⟨hl,a',c',hv,hc,hn,hcell⟩:=hx
    cases hv
    exact ⟨hl,a,A.length,rfl,Nat.le_refl _,fun h=>⟨(hn h).1,(hn h).1⟩,hcell⟩
  obtain ⟨v',w',h1,h2,h3⟩:=Ap.z9d (P:=Tryz.prog) (ty:=23) Tryz.underlying23 hi hz hs1 hb8 (by rfl) (by omega) hr hy
    (fun u hu=>by obtain ⟨x,_,rfl⟩:=List.mem_map.1 hu; rfl) (by unfold maxLen; omega) (by omega)
  refine ⟨v',w',h1,?_,h3⟩;unfold Rw.Ints;rw [List.length_append,List.map_append];exact h2
def PtC (b1 b2 b3:Nat) (x xa:Value) (xn:Int) (y ya:Value) (yn:Int) (z za:Value) (zn:Int) (w:World):Prop:=w.cell? ⟨b1,0,none⟩=some x∧w.cell? ⟨b1,1,none⟩=some xa∧w.cell? ⟨b1,2,none⟩=some (.int .i64 xn)∧w.cell? ⟨b2,0,none⟩=some y∧w.cell? ⟨b2,1,none⟩=some ya∧w.cell? ⟨b2,2,none⟩=some (.int .i64 yn)∧w.cell? ⟨b3,0,none⟩=some z∧w.cell? ⟨b3,1,none⟩=some za∧w.cell? ⟨b3,2,none⟩=some (.int .i64 zn)
structure PtM (w:World) (b1 b2 b3:Nat) (x xa:Value) (xn:Int) (y ya:Value) (yn:Int) (z za:Value) (zn:Int) (Y Z:Rn) (XA:List ByteArray):Prop where
  c:PtC b1 b2 b3 x xa xn y ya yn z za zn w
  x:Nds w x Z.l
  xa:Tr.Strs w xa XA
  ya:Tr.Strs w ya Y.a
  z:Nds w z Z.l
  za:Tr.Strs w za Z.a
theorem PtM.below {w w':World} {b1 b2 b3:Nat} {x xa:Value} {xn:Int} {y ya:Value} {yn:Int} {z za:Value} {zn:Int} {Y Z:Rn} {XA:List ByteArray} (h:PtM w b1 b2 b3 x xa xn y ya yn z za zn Y Z XA) (hb:Below w.heap.size w w'):PtM w' b1 b2 b3 x xa xn y ya yn z za zn Y Z XA:=by
  obtain ⟨⟨h1,h2,h3,h4,h5,h6,h7,h8,h9⟩,k1,k2,k3,k4,k5⟩:=h;exact ⟨⟨kc hb h1,kc hb h2,kc hb h3,kc hb h4,kc hb h5,kc hb h6,kc hb h7,kc hb h8,kc hb h9⟩,k1.below hb,Ap.Rd.below k2 hb,Ap.Rd.below k3 hb,k4.below hb,Ap.Rd.below k5 hb⟩
theorem x9s (v av bv:Value) (l:List Nd) (A B:List Int) (w:World) (hT:Sg.Tab w) (hv:Nds w v l) (ha:Rw.Ints w av A) (hb:Rw.Ints w bv B) (hm:Nms l) (hi:∀ z∈A,In64 z) (hj:∀ z∈B,In64 z) (hA:A.length≤1000000000000000000) (hB:B.length≤1000000000000000000):Calls Tryz.prog 9 #[v,av,bv] w (Law w):=by
  have HF:=Lib.hid (x0i v l w hv);have HV:=Lib.hid hv;have HAi:=Lib.hid ha;have HBi:=Lib.hid hb;have HT:=Lib.hid hT;have HA:=Lib.hid y0u;unfold Alive at HA;obtain ⟨_,va,vc,rfl,-⟩:=id hv;obtain ⟨_,aa,ac,rfl,hac,hanil,_⟩:=id ha;obtain ⟨_,ba,bc,rfl,-⟩:=id hb;unfold Law;clear hv hT ha hb
  cases hl:Do.fewB l with
  | false=>
    rw [hl] at HF
    go_enter Tryz.func9,Tryz.ntmps9
    go_wp2_with fail;refine HF.out.mono ?_;rintro e w1 ⟨rfl,rfl⟩;go_wp2_with fail;refine (HA.out _ HT.out).mono ?_;rintro e w2 ⟨rfl,hb2⟩;go_wp2_with fail;go_ret;exact ⟨rfl,hb2⟩
  | true=>
    rw [hl] at HF;have hlen:=few_len hl;clear hl
    by_cases h6:A.length+B.length≤60
    · have h6':¬ (60:Int)<A.length+B.length:=by omega
      obtain ⟨v1,w1,hrun,hv1,hb1⟩:=x3q HAi.out HBi.out (by omega);have RUN:=Lib.hid hrun;have hin:∀ z∈A++B,In64 z:=fun z hz=>(List.mem_append.1 hz).elim (hi z) (hj z)
      have hl1:l.length≤1000:=by omega
      have HX:=Lib.hid (z2g (.slice va l.length vc) v1 l (A++B) w1 (HV.out.below hb1) hv1 hl1 hm (by simp; omega) hin);have HY:=Lib.hid (fun w2 (hb:Below w.heap.size w w2)=>z2g (.slice va l.length vc) (.slice aa A.length ac) l A w2 (HV.out.below hb) (HAi.out.below hb) hl1 hm (by omega) hi);have hy:=z5z hl1 hm A;have HZ:=Lib.hid (fun y w2 (h:Nds w2 y (play l A).l) (hb:Below w.heap.size w w2)=>z2g y (.slice ba B.length bc) (play l A).l B w2 h (HBi.out.below hb) hy.1 hy.2 (by omega) hj);have e1:=z9l l A B;have hxl:=(z5z hl1 hm (A++B)).1;have hxa:(play l (A++B)).a.length≤1000:=by have:=x1u l (A++B); simp at this; omega
      have hyn:=x1t l A;have hzn:=x1t (play l A).l B;rw [e1] at HX hxl hxa;unfold PlP at HX HY HZ;generalize play l A=Y at *;generalize play Y.l B=Z at *;simp only at hxl hxa HX;obtain ⟨XA,hXA⟩:∃ XA,Y.a++Z.a=XA:=⟨_,rfl⟩
      obtain ⟨xn,hxn⟩:∃ xn:Int,((Y.n+Z.n:Nat):Int)=xn:=⟨_,rfl⟩
      rw [hXA,hxn] at HX;rw [hXA] at hxa;have hsum:((Y.n:Int)+(Z.n:Int))=xn:=by rw [← hxn]; simp
      have hxb:0≤xn∧xn≤1000:=by omega
      have hwr:IntKind.i64.wrap xn=xn:=IntWalk.i64_in _ (by omega);have hwr2:IntKind.i64.wrap ((Y.n:Int)+(Z.n:Int))=xn:=by rw [hsum,hwr]
      have HCL:=Lib.hid (show Y.a.length+Z.a.length≤2000000000000 by rw [← List.length_append,hXA]; omega);have HXA:=Lib.hid hXA;clear hxn hXA;have D1:=Lib.hid hb1;clear hrun hv1 hb1 e1;have hacn:aa=none→A.length=0∧ac=0:=hanil;clear hanil
      cases aa with
      | none=>
        obtain ⟨n0,rfl⟩:=hacn rfl;rw [n0] at RUN HY h6' ⊢;clear n0 hacn
        go_enter Tryz.func9,Tryz.ntmps9
        go_wp2_with fail;refine HF.out.mono ?_;rintro e w1' ⟨rfl,rfl⟩;go_wp2_with (at_builtin; refine Ap.wpList_append_run (by rfl) (.tmp 28) (.tmp 29) _ _ rfl _ _ rfl rfl _ w1 RUN.out ?_);refine HX.out.mono ?_;rintro e w2 ⟨y2,a2,rfl,hy2,ha2,hb2⟩;obtain ⟨_,xa,xc,rfl,_⟩:=id hy2;obtain ⟨_,xb,xd,rfl,_⟩:=id ha2;have U3:=Rw.z0b w2 (.cells #[.slice xa Z.l.length xc,.slice xb XA.length xd,.int .i64 xn] 28);obtain ⟨W3,hW3⟩:∃ W3,w2.alloc (.cells #[.slice xa Z.l.length xc,.slice xb XA.length xd,.int .i64 xn] 28)=W3:=⟨_,rfl⟩
        rw [hW3] at U3;have x0:W3.cell? ⟨w2.heap.size,0,none⟩=some (.slice xa Z.l.length xc):=by rw [← hW3]; simp [go_sem]
        have x1:W3.cell? ⟨w2.heap.size,1,none⟩=some (.slice xb XA.length xd):=by rw [← hW3]; simp [go_sem]
        have x2:W3.cell? ⟨w2.heap.size,2,none⟩=some (.int .i64 xn):=by rw [← hW3]; simp [go_sem]
        have T3:=Lib.hid ((D1.out.trans (hb2.mono D1.out.size)).trans (U3.mono (D1.out.trans (hb2.mono D1.out.size)).size));have R3:=Lib.hid (⟨x0,x1,x2,hy2.below U3,Ap.Rd.below ha2 U3⟩:_∧_∧_∧Nds _ _ Z.l∧Tr.Strs _ _ XA);clear hy2 ha2 hb2 U3 x0 x1 x2 RUN D1;go_wp2_with fail;refine (HY.out _ T3.out).mono ?_;rintro e w4 ⟨y4,a4,rfl,hy4,ha4,hb4⟩;obtain ⟨_,ya,yc,rfl,_⟩:=id hy4;obtain ⟨_,yb,yd,rfl,_⟩:=id ha4;have U5:=Rw.z0b w4 (.cells #[.slice ya Y.l.length yc,.slice yb Y.a.length yd,.int .i64 Y.n] 28);obtain ⟨W5,hW5⟩:∃ W5,w4.alloc (.cells #[.slice ya Y.l.length yc,.slice yb Y.a.length yd,.int .i64 Y.n] 28)=W5:=⟨_,rfl⟩
        rw [hW5] at U5;have y0:W5.cell? ⟨w4.heap.size,0,none⟩=some (.slice ya Y.l.length yc):=by rw [← hW5]; simp [go_sem]
        have y1:W5.cell? ⟨w4.heap.size,1,none⟩=some (.slice yb Y.a.length yd):=by rw [← hW5]; simp [go_sem]
        have y2:W5.cell? ⟨w4.heap.size,2,none⟩=some (.int .i64 Y.n):=by rw [← hW5]; simp [go_sem]
        have V5:=hb4.trans (U5.mono hb4.size);have T5:=Lib.hid (T3.out.trans (V5.mono T3.out.size));obtain ⟨x0,x1,x2,x3,x4⟩:=R3.out;have R5:=Lib.hid (⟨kc V5 x0,kc V5 x1,kc V5 x2,x3.below V5,Ap.Rd.below x4 V5⟩:_∧_∧_∧Nds _ _ Z.l∧Tr.Strs _ _ XA);have S5:=Lib.hid (⟨y0,y1,y2,Ap.Rd.below ha4 U5⟩:_∧_∧_∧Tr.Strs _ _ Y.a);have HZ5:=Lib.hid (HZ.out _ W5 (hy4.below U5) T5.out);clear x0 x1 x2 x3 x4 hy4 ha4 hb4 U5 V5 R3 T3 hW3 y1 y2 HZ;go_wp2_with fail;refine HZ5.out.mono ?_;rintro e w6 ⟨y6,a6,rfl,hy6,ha6,hb6⟩;obtain ⟨_,za,zc,rfl,_⟩:=id hy6;obtain ⟨_,zb,zd,rfl,_⟩:=id ha6;have U7:=Rw.z0b w6 (.cells #[.slice za Z.l.length zc,.slice zb Z.a.length zd,.int .i64 Z.n] 28);obtain ⟨W7,hW7⟩:∃ W7,w6.alloc (.cells #[.slice za Z.l.length zc,.slice zb Z.a.length zd,.int .i64 Z.n] 28)=W7:=⟨_,rfl⟩
        rw [hW7] at U7;have z0:W7.cell? ⟨w6.heap.size,0,none⟩=some (.slice za Z.l.length zc):=by rw [← hW7]; simp [go_sem]
        have z1:W7.cell? ⟨w6.heap.size,1,none⟩=some (.slice zb Z.a.length zd):=by rw [← hW7]; simp [go_sem]
        have z2:W7.cell? ⟨w6.heap.size,2,none⟩=some (.int .i64 Z.n):=by rw [← hW7]; simp [go_sem]
        have V7:=hb6.trans (U7.mono hb6.size);have T7:=Lib.hid (T5.out.trans (V7.mono T5.out.size));obtain ⟨x0,x1,x2,x3,x4⟩:=R5.out;obtain ⟨y0',y1,y2,y4⟩:=S5.out;have K7:=Lib.hid (⟨⟨kc V7 x0,kc V7 x1,kc V7 x2,kc V7 y0',kc V7 y1,kc V7 y2,z0,z1,z2⟩,x3.below V7,Ap.Rd.below x4 V7,Ap.Rd.below y4 V7,hy6.below U7,Ap.Rd.below ha6 U7⟩:PtM W7 w2.heap.size w4.heap.size w6.heap.size (.slice xa Z.l.length xc) (.slice xb XA.length xd) xn (.slice ya Y.l.length yc) (.slice yb Y.a.length yd) Y.n (.slice za Z.l.length zc) (.slice zb Z.a.length zd) Z.n Y Z XA);clear x0 x1 x2 x3 x4 y0 y0' y1 y2 y4 z0 z1 z2 hy6 ha6 hb6 U7 V7 R5 S5 T5 hW5 HZ5 HX HY;have HR:=Lib.hid (Below.refl W7.heap.size W7);have PC:=Lib.hid (fun w' (h:Below W7.heap.size W7 w')=>(K7.out.below h).c);go_wp2_with fail
        go_region_held3 (fun w'=>w'.cell? ⟨w2.heap.size,0,none⟩=some (.slice xa Z.l.length xc)∧w'.cell? ⟨w2.heap.size,1,none⟩=some (.slice xb XA.length xd)∧w'.cell? ⟨w2.heap.size,2,none⟩=some (.int .i64 xn)∧w'.cell? ⟨w4.heap.size,0,none⟩=some (.slice ya Y.l.length yc)∧w'.cell? ⟨w4.heap.size,1,none⟩=some (.slice yb Y.a.length yd)∧w'.cell? ⟨w4.heap.size,2,none⟩=some (.int .i64 Y.n)∧w'.cell? ⟨w6.heap.size,0,none⟩=some (.slice za Z.l.length zc)∧w'.cell? ⟨w6.heap.size,1,none⟩=some (.slice zb Z.a.length zd)∧w'.cell? ⟨w6.heap.size,2,none⟩=some (.int .i64 Z.n)) (first | exact PC.out _ HR.out.drew | exact PC.out _ T10.out | exact PC.out _ T9.out | exact PC.out _ T8.out | exact PC.out _ T7'.out | fail) (first
          | (go_at_call 11
             refine (HA.out _ (Tr.Tab.below HT.out (T7.out.trans (HR.out.drew.mono T7.out.size)))).mono ?_;rintro e w8 ⟨rfl,hb8⟩;have T7':=Lib.hid (HR.out.drew.trans (hb8.mono HR.out.drew.size));clear hb8)
          | (go_at_call 18
             refine (y5t _ _ Z.l Z.l _ (K7.out.below T7'.out).x (K7.out.below T7'.out).z (by omega)).mono ?_;rw [show sameN Z.l Z.l=true from decide_eq_true rfl];rintro e w9 ⟨rfl,hb9⟩;have T8:=Lib.hid (T7'.out.trans (hb9.mono T7'.out.size));clear hb9)
          | (go_at_call 36
             refine (v3t _ _ Y.a Z.a _ (K7.out.below T8.out).ya (K7.out.below T8.out).za HCL.out).mono ?_;rintro e w10 ⟨vc',rfl,hown,hb10⟩;have T9:=Lib.hid (T8.out.trans (hb10.mono T8.out.size));have hco:Tr.Strs w10 vc' XA:=by rw [← HXA.out]; exact Ap.Rd.owned hown
             have CO:=Lib.hid hco;obtain ⟨_,oa,oc,rfl,_⟩:=hco;clear hb10 hown)
          | (go_at_call 35
             refine (y1h _ _ XA XA _ (K7.out.below T9.out).xa CO.out (by omega)).mono ?_;rw [show sameS XA XA=true from decide_eq_true rfl];rintro e w11 ⟨rfl,hb11⟩;have T10:=Lib.hid (T9.out.trans (hb11.mono T9.out.size));clear hb11)
          | fail)
        go_wp2_with fail;go_ret;exact ⟨rfl,T7.out.trans (T10.out.mono T7.out.size)⟩
      | some ad=>
        go_enter Tryz.func9,Tryz.ntmps9
        go_wp2_with fail;refine HF.out.mono ?_;rintro e w1' ⟨rfl,rfl⟩;go_wp2_with (at_builtin; refine Ap.wpList_append_run (by rfl) (.tmp 28) (.tmp 29) _ _ rfl _ _ rfl rfl _ w1 RUN.out ?_);refine HX.out.mono ?_;rintro e w2 ⟨y2,a2,rfl,hy2,ha2,hb2⟩;obtain ⟨_,xa,xc,rfl,_⟩:=id hy2;obtain ⟨_,xb,xd,rfl,_⟩:=id ha2;have U3:=Rw.z0b w2 (.cells #[.slice xa Z.l.length xc,.slice xb XA.length xd,.int .i64 xn] 28);obtain ⟨W3,hW3⟩:∃ W3,w2.alloc (.cells #[.slice xa Z.l.length xc,.slice xb XA.length xd,.int .i64 xn] 28)=W3:=⟨_,rfl⟩
        rw [hW3] at U3;have x0:W3.cell? ⟨w2.heap.size,0,none⟩=some (.slice xa Z.l.length xc):=by rw [← hW3]; simp [go_sem]
        have x1:W3.cell? ⟨w2.heap.size,1,none⟩=some (.slice xb XA.length xd):=by rw [← hW3]; simp [go_sem]
        have x2:W3.cell? ⟨w2.heap.size,2,none⟩=some (.int .i64 xn):=by rw [← hW3]; simp [go_sem]
        have T3:=Lib.hid ((D1.out.trans (hb2.mono D1.out.size)).trans (U3.mono (D1.out.trans (hb2.mono D1.out.size)).size));have R3:=Lib.hid (⟨x0,x1,x2,hy2.below U3,Ap.Rd.below ha2 U3⟩:_∧_∧_∧Nds _ _ Z.l∧Tr.Strs _ _ XA);clear hy2 ha2 hb2 U3 x0 x1 x2 RUN D1;go_wp2_with fail;refine (HY.out _ T3.out).mono ?_;rintro e w4 ⟨y4,a4,rfl,hy4,ha4,hb4⟩;obtain ⟨_,ya,yc,rfl,_⟩:=id hy4;obtain ⟨_,yb,yd,rfl,_⟩:=id ha4;have U5:=Rw.z0b w4 (.cells #[.slice ya Y.l.length yc,.slice yb Y.a.length yd,.int .i64 Y.n] 28);obtain ⟨W5,hW5⟩:∃ W5,w4.alloc (.cells #[.slice ya Y.l.length yc,.slice yb Y.a.length yd,.int .i64 Y.n] 28)=W5:=⟨_,rfl⟩
        rw [hW5] at U5;have y0:W5.cell? ⟨w4.heap.size,0,none⟩=some (.slice ya Y.l.length yc):=by rw [← hW5]; simp [go_sem]
        have y1:W5.cell? ⟨w4.heap.size,1,none⟩=some (.slice yb Y.a.length yd):=by rw [← hW5]; simp [go_sem]
        have y2:W5.cell? ⟨w4.heap.size,2,none⟩=some (.int .i64 Y.n):=by rw [← hW5]; simp [go_sem]
        have V5:=hb4.trans (U5.mono hb4.size);have T5:=Lib.hid (T3.out.trans (V5.mono T3.out.size));obtain ⟨x0,x1,x2,x3,x4⟩:=R3.out;have R5:=Lib.hid (⟨kc V5 x0,kc V5 x1,kc V5 x2,x3.below V5,Ap.Rd.below x4 V5⟩:_∧_∧_∧Nds _ _ Z.l∧Tr.Strs _ _ XA);have S5:=Lib.hid (⟨y0,y1,y2,Ap.Rd.below ha4 U5⟩:_∧_∧_∧Tr.Strs _ _ Y.a);have HZ5:=Lib.hid (HZ.out _ W5 (hy4.below U5) T5.out);clear x0 x1 x2 x3 x4 hy4 ha4 hb4 U5 V5 R3 T3 hW3 y1 y2 HZ;go_wp2_with fail;refine HZ5.out.mono ?_;rintro e w6 ⟨y6,a6,rfl,hy6,ha6,hb6⟩;obtain ⟨_,za,zc,rfl,_⟩:=id hy6;obtain ⟨_,zb,zd,rfl,_⟩:=id ha6;have U7:=Rw.z0b w6 (.cells #[.slice za Z.l.length zc,.slice zb Z.a.length zd,.int .i64 Z.n] 28);obtain ⟨W7,hW7⟩:∃ W7,w6.alloc (.cells #[.slice za Z.l.length zc,.slice zb Z.a.length zd,.int .i64 Z.n] 28)=W7:=⟨_,rfl⟩
        rw [hW7] at U7;have z0:W7.cell? ⟨w6.heap.size,0,none⟩=some (.slice za Z.l.length zc):=by rw [← hW7]; simp [go_sem]
        have z1:W7.cell? ⟨w6.heap.size,1,none⟩=some (.slice zb Z.a.length zd):=by rw [← hW7]; simp [go_sem]
        have z2:W7.cell? ⟨w6.heap.size,2,none⟩=some (.int .i64 Z.n):=by rw [← hW7]; simp [go_sem]
        have V7:=hb6.trans (U7.mono hb6.size);have T7:=Lib.hid (T5.out.trans (V7.mono T5.out.size));obtain ⟨x0,x1,x2,x3,x4⟩:=R5.out;obtain ⟨y0',y1,y2,y4⟩:=S5.out;have K7:=Lib.hid (⟨⟨kc V7 x0,kc V7 x1,kc V7 x2,kc V7 y0',kc V7 y1,kc V7 y2,z0,z1,z2⟩,x3.below V7,Ap.Rd.below x4 V7,Ap.Rd.below y4 V7,hy6.below U7,Ap.Rd.below ha6 U7⟩:PtM W7 w2.heap.size w4.heap.size w6.heap.size (.slice xa Z.l.length xc) (.slice xb XA.length xd) xn (.slice ya Y.l.length yc) (.slice yb Y.a.length yd) Y.n (.slice za Z.l.length zc) (.slice zb Z.a.length zd) Z.n Y Z XA);clear x0 x1 x2 x3 x4 y0 y0' y1 y2 y4 z0 z1 z2 hy6 ha6 hb6 U7 V7 R5 S5 T5 hW5 HZ5 HX HY;have HR:=Lib.hid (Below.refl W7.heap.size W7);have PC:=Lib.hid (fun w' (h:Below W7.heap.size W7 w')=>(K7.out.below h).c);go_wp2_with fail
        go_region_held3 (fun w'=>w'.cell? ⟨w2.heap.size,0,none⟩=some (.slice xa Z.l.length xc)∧w'.cell? ⟨w2.heap.size,1,none⟩=some (.slice xb XA.length xd)∧w'.cell? ⟨w2.heap.size,2,none⟩=some (.int .i64 xn)∧w'.cell? ⟨w4.heap.size,0,none⟩=some (.slice ya Y.l.length yc)∧w'.cell? ⟨w4.heap.size,1,none⟩=some (.slice yb Y.a.length yd)∧w'.cell? ⟨w4.heap.size,2,none⟩=some (.int .i64 Y.n)∧w'.cell? ⟨w6.heap.size,0,none⟩=some (.slice za Z.l.length zc)∧w'.cell? ⟨w6.heap.size,1,none⟩=some (.slice zb Z.a.length zd)∧w'.cell? ⟨w6.heap.size,2,none⟩=some (.int .i64 Z.n)) (first | exact PC.out _ HR.out.drew | exact PC.out _ T10.out | exact PC.out _ T9.out | exact PC.out _ T8.out | exact PC.out _ T7'.out | fail) (first
          | (go_at_call 11
             refine (HA.out _ (Tr.Tab.below HT.out (T7.out.trans (HR.out.drew.mono T7.out.size)))).mono ?_;rintro e w8 ⟨rfl,hb8⟩;have T7':=Lib.hid (HR.out.drew.trans (hb8.mono HR.out.drew.size));clear hb8)
          | (go_at_call 18
             refine (y5t _ _ Z.l Z.l _ (K7.out.below T7'.out).x (K7.out.below T7'.out).z (by omega)).mono ?_;rw [show sameN Z.l Z.l=true from decide_eq_true rfl];rintro e w9 ⟨rfl,hb9⟩;have T8:=Lib.hid (T7'.out.trans (hb9.mono T7'.out.size));clear hb9)
          | (go_at_call 36
             refine (v3t _ _ Y.a Z.a _ (K7.out.below T8.out).ya (K7.out.below T8.out).za HCL.out).mono ?_;rintro e w10 ⟨vc',rfl,hown,hb10⟩;have T9:=Lib.hid (T8.out.trans (hb10.mono T8.out.size));have hco:Tr.Strs w10 vc' XA:=by rw [← HXA.out]; exact Ap.Rd.owned hown
             have CO:=Lib.hid hco;obtain ⟨_,oa,oc,rfl,_⟩:=hco;clear hb10 hown)
          | (go_at_call 35
             refine (y1h _ _ XA XA _ (K7.out.below T9.out).xa CO.out (by omega)).mono ?_;rw [show sameS XA XA=true from decide_eq_true rfl];rintro e w11 ⟨rfl,hb11⟩;have T10:=Lib.hid (T9.out.trans (hb11.mono T9.out.size));clear hb11)
          | fail)
        go_wp2_with fail;go_ret;exact ⟨rfl,T7.out.trans (T10.out.mono T7.out.size)⟩
    · have h6':(60:Int)<A.length+B.length:=by omega
      go_enter Tryz.func9,Tryz.ntmps9
      go_wp2_with fail;refine HF.out.mono ?_;rintro e w1 ⟨rfl,rfl⟩;go_wp2_with fail;refine (HA.out _ HT.out).mono ?_;rintro e w2 ⟨rfl,hb2⟩;go_wp2_with fail;go_ret;exact ⟨rfl,hb2⟩
theorem begun {l:List Nd} (h:(bg l).length≠0):rightB l=true∧bg l=st l:=by
  unfold bg at h ⊢
  cases hr:rightB l with
  | true=>exact ⟨rfl,if_pos rfl⟩
  | false=>rw [hr] at h; exact absurd rfl h
theorem x3v (b off cap:Nat) (l:List Nd) (w:World) (hat:At w b off l) (hm:Nms l) (h2:200<l.length) (hl:l.length≤9223372036854775807) :
    Calls Tryz.prog 183 #[.slice (some ⟨b,off,none⟩) l.length cap] w fun e w'=>e=.returned (.bool false)∧Below w.heap.size w w':=by
  have HA:=Lib.hid hat;have HM:=Lib.hid hm;have g2:¬ ((l.length:Int)≤200):=by omega
  clear hat hm
  go_enter Tryz.func183,Tryz.ntmps183
  go_wp2_with fail
  go_loopw [3] (fun i wr=>∃ k:Nat,k≤l.length∧i=.int .i64 k∧Below w.heap.size w wr) (fun i _=>l.length-(intOf i).toNat)
  case atStart=>exact ⟨0,Nat.zero_le _,rfl,Below.refl _ _⟩
  case round=>
    obtain ⟨k,hk,rfl,hb⟩:=hrel;have HB:=Lib.hid hb;clear hb
    by_cases hlt:k<l.length
    · obtain ⟨e1,e2,e3⟩:=HA.out k hlt;have c1:wr.cell? ⟨b,off+k*3,none⟩=some (.int .i64 l[k].k):=by rw [HB.out.cell (Ap.z0a e1)]; exact e1
      have c2:wr.cell? ⟨b,off+k*3+1,none⟩=some (.string l[k].n):=by rw [HB.out.cell (Ap.z0a e2)]; exact e2
      have c3:wr.cell? ⟨b,off+k*3+2,none⟩=some (.int .i64 l[k].s):=by rw [HB.out.cell (Ap.z0a e3)]; exact e3
      have hxm:(l[k]).n.size≤140737488355328:=HM.out _ (List.getElem_mem hlt);obtain ⟨x,hx⟩:∃ x,l[k]=x:=⟨_,rfl⟩
      rw [hx] at c1 c2 c3 hxm;clear hx e1 e2 e3
      cases hr:rgt x with
      | false=>
        have HR:=Lib.hid hr;clear hr;go_wp2_with fail;refine (z4y x _ hxm).mono ?_;rw [HR.out];rintro e w' ⟨rfl,hb'⟩;go_wp2_with fail;go_ret;exact ⟨rfl,HB.out.trans (hb'.mono HB.out.size)⟩
      | true=>
        have HR:=Lib.hid hr;clear hr;go_wp2_with fail;refine (z4y x _ hxm).mono ?_;rw [HR.out];rintro e w' ⟨rfl,hb'⟩;go_wp2_with fail
        go_roundw
        case rel=>exact ⟨k+1,by omega,by go_num,HB.out.trans (hb'.mono HB.out.size)⟩
        case measure=>simp [intOf]; omega
    · have g1:(1:Int)≤l.length:=by omega
      go_wp2_with fail;go_ret;exact ⟨rfl,HB.out⟩
theorem ofR_far (b off cap:Nat) (l:List Nd) (w:World) (hat:At w b off l) (hm:Nms l) (h2:200<l.length) (hl:l.length≤9223372036854775807) :
    Calls Tryz.prog 116 #[.slice (some ⟨b,off,none⟩) l.length cap] w fun e w'=>e=.returned (.int .i64 0)∧Below w.heap.size w w':=by
  have HW:=Lib.hid (x3v b off cap l w hat hm h2 hl);clear hat hm
  go_enter Tryz.func116,Tryz.ntmps116
  go_wp2_with fail;refine HW.out.mono ?_;rintro e w1 ⟨rfl,hb⟩;have B1:=Lib.hid hb;clear hb;go_wp2_with fail;go_ret;exact ⟨rfl,B1.out⟩
theorem x4s (b off cap:Nat) (l:List Nd) (w:World) (hat:At w b off l) (hm:Nms l) (h2:200<l.length) (hl:l.length≤9223372036854775807) :
    Calls Tryz.prog 65 #[.slice (some ⟨b,off,none⟩) l.length cap] w fun e w'=>e=.returned (.bool false)∧Below w.heap.size w w':=by
  have HW:=Lib.hid (ofR_far b off cap l w hat hm h2 hl);clear hat hm
  go_enter Tryz.func65,Tryz.ntmps65
  go_wp2_with fail;refine HW.out.mono ?_;rintro e w1 ⟨rfl,hb⟩;have B1:=Lib.hid hb;clear hb;go_wp2_with fail;go_ret;exact ⟨rfl,B1.out⟩
theorem x6x (b off cap:Nat) (l:List Nd) (w:World) (hat:At w b off l) (hm:Nms l) (h2:200<l.length) (hl:l.length≤9223372036854775807) :
    Calls Tryz.prog 33 #[.slice (some ⟨b,off,none⟩) l.length cap] w fun e w'=>e=.returned (.slice none 0 0)∧Below w.heap.size w w':=by
  have HW:=Lib.hid (x4s b off cap l w hat hm h2 hl);clear hat hm
  go_enter Tryz.func33,Tryz.ntmps33
  go_wp2_with fail;refine HW.out.mono ?_;rintro e w1 ⟨rfl,hb⟩;have B1:=Lib.hid hb;clear hb;go_wp2_with fail;go_ret;exact ⟨rfl,B1.out⟩
theorem x6z (v:Value) (l:List Nd) (w:World) (hv:Nds w v l) (hm:Nms l) (hl:l.length≤9223372036854775807):Calls Tryz.prog 33 #[v] w (OutL (if l.length≤1000 then bg l else []) w):=by
  by_cases h:l.length≤1000
  · rw [if_pos h];exact x6y v l w hv h hm
  · rw [if_neg h]
    rcases hv.form with ⟨rfl,_⟩ | ⟨b,off,cap,rfl,_,hat⟩
    · exact absurd (Nat.zero_le _) h
    · refine (x6x b off cap l w hat hm (by omega) hl).mono ?_;rintro e w' ⟨rfl,hb⟩;exact ⟨_,rfl,⟨rfl,none,0,rfl,Nat.le_refl _,fun _=>⟨rfl,rfl⟩,fun h=>absurd h (Nat.lt_irrefl _)⟩,hb⟩
end Ru
end Go.Proofs.YtpingbiibbmcaaaGreatDoor
