/- Laws that the last text leans on. -/
import Derived.Test.YtaapnkoooofalaaGreatQ44
import Derived.Test.YtaapnkoooofalaaGreatQ31

set_option maxRecDepth 20000
set_option maxHeartbeats 4000000
namespace Go.Proofs.YtaapnkoooofalaaGreat
namespace Mn
open Go Go.RowKit Tr
open Rw (Nd Nds)
theorem y7s (T:TCon) (k:Int) (nm':ByteArray) (sg':Int) (rest:List Nd) (v:Value) (w:World) (hv:Nds w v ((⟨k,nm',sg'⟩:Nd)::rest)) (ht:So.Tre ((⟨k,nm',sg'⟩:Nd)::rest)) (hi:So.Is 4 ((⟨k,nm',sg'⟩:Nd)::rest)=true)
    (h24:((⟨k,nm',sg'⟩:Nd)::rest).length≤24) (h6:acs ((⟨k,nm',sg'⟩:Nd)::rest)≤6) (ihT:∀ a∈Rw.kids ((⟨k,nm',sg'⟩:Nd)::rest),So.Is 3 a=true→PC a) (ihP:∀ a∈Rw.kids ((⟨k,nm',sg'⟩:Nd)::rest),So.Is 4 a=true→QC a) :
    Calls Tryz.prog 73 #[v] w (OutP any (Mp ((⟨k,nm',sg'⟩:Nd)::rest)) w):=by
  have HK:=Lib.hid (fun w1 (hb:Below w.heap.size w w1)=>Rx.z9r v ((⟨k,nm',sg'⟩:Nd)::rest) w1 (hv.below hb) (by simp at h24 ⊢; omega))
  rcases Rw.Nds.form hv with ⟨h0,_⟩ | ⟨b,o,c,rfl,hc,hat⟩
  · cases h0
  obtain ⟨e0,e1,e2⟩:=hat 0 (by simp);simp only [List.getElem_cons_zero,Nat.zero_mul,Nat.add_zero] at e0 e1 e2;obtain ⟨n,hn⟩:∃ n,((⟨k,nm',sg'⟩:Nd)::rest).length=n+1:=⟨rest.length,by simp⟩
  rw [hn] at HK hc ⊢;have hbl:b<w.heap.size:=Ap.z0a e0;obtain ⟨ks,hks⟩:∃ ks,Rw.kids ((⟨k,nm',sg'⟩:Nd)::rest)=ks:=⟨_,rfl⟩
  rw [hks] at HK;have HKS:=Lib.hid hks;have HN:=Lib.hid hn;have IT:=Lib.hid ihT;have IP:=Lib.hid ihP;have hn24:n≤23:=by omega
  have HT:=Lib.hid ht;have HI:=Lib.hid hi;have H24:=Lib.hid h24;have H6:=Lib.hid h6;obtain ⟨L,hL⟩:∃ L,Mp ((⟨k,nm',sg'⟩:Nd)::rest)=L:=⟨_,rfl⟩
  rw [hL];have HL:=Lib.hid hL;clear hv hat hn hks ihT ihP ht hi h24 h6 hL
  go_enter Tryz.func73,Tryz.ntmps73
  go_upto_region 1 with fail
  go_cut [3,4] (fun s3 s4 wx=>∃ (B:Nat),s3=.pointer (some ⟨B,0,none⟩)∧w.heap.size≤B∧BoxN wx B ⟨k,nm',sg'⟩∧Rw.Rws wx s4 ks∧Below w.heap.size w wx)
  case first=>
    clear HKS HN IT IP HT HI H24 H6 HL hn24 T
    go_region_with (first
      | (go_at_call 50
         (with_reducible refine (HK.out _ (Below.refl _ _).drew).mono ?_)
         rintro e w1 ⟨y,cs,rfl,hy,hown,hb1⟩;have B1:=Lib.hid ((Below.refl _ _).drew.trans hb1);have K1:Hid (Rw.Rws w1 y ks):=Lib.hid ⟨cs,Ap.RdO.rd hy,Rw.OwnC.rwc hown⟩;have c0:w1.cell? ⟨b,o,none⟩=some (.int .i64 k):=by rw [B1.out.cell (p:=⟨b,o,none⟩) hbl]; exact e0
         have c1:w1.cell? ⟨b,o+1,none⟩=some (.string nm'):=by rw [B1.out.cell (p:=⟨b,o+1,none⟩) hbl]; exact e1
         have c2:w1.cell? ⟨b,o+2,none⟩=some (.int .i64 sg'):=by rw [B1.out.cell (p:=⟨b,o+2,none⟩) hbl]; exact e2
         have hbl1:b<w1.heap.size:=Ap.z0a c0;clear hy hown hb1)
      | (go_at_call 50
         (refine (HK.out _ ((Below.refl _ _).alloc (Nat.le_refl _) _).drew).mono ?_)
         rintro e w1 ⟨y,cs,rfl,hy,hown,hb1⟩;have B1:=Lib.hid (((Below.refl _ _).alloc (Nat.le_refl _) _).drew.trans (hb1.mono (by simp)));have K1:Hid (Rw.Rws w1 y ks):=Lib.hid ⟨cs,Ap.RdO.rd hy,Rw.OwnC.rwc hown⟩;have KB:Hid (∀ a b c:Value,Rw.Rws (((w1.setCell ⟨w.heap.size,0,none⟩ a).setCell ⟨w.heap.size,1,none⟩ b).setCell ⟨w.heap.size,2,none⟩ c) y ks):=Lib.hid fun a b c=>⟨cs,x6n hy (y3u _ _ _ _ _) (by simp),x6e (y3u _ _ _ _ _) (by simp) hown⟩
         have k0:w1.cell? ⟨w.heap.size,0,none⟩=some (.int .i64 0):=by rw [hb1.cell (p:=⟨w.heap.size,0,none⟩) (by simp)]; simp [go_sem]
         have k1:w1.cell? ⟨w.heap.size,1,none⟩=some (.string ⟨#[]⟩):=by rw [hb1.cell (p:=⟨w.heap.size,1,none⟩) (by simp)]; simp [go_sem]
         have k2:w1.cell? ⟨w.heap.size,2,none⟩=some (.int .i64 0):=by rw [hb1.cell (p:=⟨w.heap.size,2,none⟩) (by simp)]; simp [go_sem]
         have f0:w1.frozen? ⟨w.heap.size,0,none⟩=false:=by rw [hb1.frozen (p:=⟨w.heap.size,0,none⟩) (by simp)]; simp [go_sem]
         have f1:w1.frozen? ⟨w.heap.size,1,none⟩=false:=by rw [hb1.frozen (p:=⟨w.heap.size,1,none⟩) (by simp)]; simp [go_sem]
         have f2:w1.frozen? ⟨w.heap.size,2,none⟩=false:=by rw [hb1.frozen (p:=⟨w.heap.size,2,none⟩) (by simp)]; simp [go_sem]
         have c0:w1.cell? ⟨b,o,none⟩=some (.int .i64 k):=by rw [B1.out.cell (p:=⟨b,o,none⟩) hbl]; exact e0
         have c1:w1.cell? ⟨b,o+1,none⟩=some (.string nm'):=by rw [B1.out.cell (p:=⟨b,o+1,none⟩) hbl]; exact e1
         have c2:w1.cell? ⟨b,o+2,none⟩=some (.int .i64 sg'):=by rw [B1.out.cell (p:=⟨b,o+2,none⟩) hbl]; exact e2
         have hbl1:b<w1.heap.size:=Ap.z0a c0;clear hy hown hb1)
      | fail)
    all_goals go_wp2_with fail
    all_goals go_meet
    all_goals first
      | exact ⟨_,rfl,B1.out.size,⟨by simp,by simp,by simp⟩,K1.out.below (bel1 _ _),B1.out.alloc B1.out.size _⟩
      | exact ⟨_,rfl,Nat.le_refl _,x1v k0 k1 k2,KB.out _ _ _,y1t B1.out (Nat.le_refl _) _ _ _⟩
  case rest=>
    obtain ⟨B,rfl,hB,hbx,hks,hbel⟩:=hcut;have BB:=Lib.hid hbel;have KS:=Lib.hid hks;have hBl:B<wc.heap.size:=Ap.z0a hbx.1;obtain ⟨x0,x1,x2⟩:=hbx;clear hbel HK e0 e1 e2;obtain ⟨_,eT⟩:=M_eq HT.out.pos;have ET:=Lib.hid eT;clear eT;have hsh:=x5y HT.out HI.out;have hhd:So.hd ((⟨k,nm',sg'⟩:Nd)::rest)=k:=rfl;rw [hhd] at hsh;clear hhd
    rcases hsh with ⟨hk,hi0,hi1⟩ | ⟨hk | hk,hi0,hi1⟩ | ⟨hk,hi0,hi1⟩ | ⟨hk,hi0⟩
    · obtain ⟨a,a',hka,ek0,ek1,hta,htb,hla,hca,hra⟩:=cut2 HT.out (by show Rw.ar k=2; rcases hk with hk | hk | hk <;> rw [hk] <;> rfl);rw [ek0] at hi0;rw [ek1] at hi1;have hks':=HKS.out.symm.trans hka;rw [hks'] at KS;have HLA:=Lib.hid hla;have HCA:=Lib.hid (hca all);have hb6:acs a+acs a'≤6:=by have:=HCA.out; have:=H6.out; unfold acs at *; omega
      rcases rws_form KS.out with ⟨h0,_⟩ | ⟨b2,o2,c2,rfl,hat⟩
      · cases h0
      obtain ⟨y0,q0,n0⟩:=hat 0 (by simp);obtain ⟨y1,q1,n1⟩:=hat 1 (by simp);simp only [List.getElem_cons_zero,List.getElem_cons_succ,Nat.add_zero] at q0 n0 q1 n1;have hb2l:b2<wc.heap.size:=Ap.z0a q0;have N0:=Lib.hid n0;have N1:=Lib.hid n1;have ha24:a.length+a'.length≤23:=by have:=HLA.out; have:=H24.out; omega
      have HLL:Hid (L=pnorm (twoP k (Mp a) (Mp a'))):=Lib.hid (HL.out.symm.trans (ET.out.trans ((z7a (l:=(⟨k,nm',sg'⟩:Nd)::rest) hk).trans (by rw [ek0,ek1]; rfl))));have QA:=Lib.hid (IP.out a (by rw [hka]; simp) hi0);have QB:=Lib.hid (IP.out a' (by rw [hka]; simp) hi1);have GA:=Lib.hid (gp hta hi0);have GB:=Lib.hid (gp htb hi1)
      have LA:Hid ((Mp a).length+(Mp a').length≤1000000000000):=Lib.hid (by
        have h1:=Nat.le_trans GA.out.len (z1n (by omega) (by omega));have h2:=Nat.le_trans GB.out.len (z1n (by omega) (by omega));omega)
      have LB:Hid ((twoP k (Mp a) (Mp a')).length≤1000000000000):=Lib.hid (Nat.le_trans (y9t (GA.out.cnt all) (GB.out.cnt all) GA.out.len GB.out.len) (Nat.le_trans (z1n (by omega) hb6) (by omega)))
      have LR:Hid (∀ t∈Mp a,∀ u∈Mp a',t.p.a.length+u.p.a.length≤9∧t.q.a.length+u.q.a.length≤9):=Lib.hid fun t ht u hu=>by
        have h1:=(GA.out.cnt all).len ht;have h2:=(GB.out.cnt all).len hu;unfold acs at hb6;omega
      have LU:Hid (∀ t∈twoP k (Mp a) (Mp a'),t.p.a.length≤1000000∧t.q.a.length≤1000000):=Lib.hid fun t ht=>by
        have h2:=(x5k (GA.out.cnt all) (GB.out.cnt all)).len ht;unfold acs at hb6;omega
      have PT':Hid (∀ y y' w1,PsO any w1 y (Mp a)→PsO any w1 y' (Mp a')→Calls Tryz.prog 112 #[.int .i64 k,y,y'] w1 (OutP any (twoP k (Mp a) (Mp a')) w1)):=Lib.hid fun y y' w1 h1 h2=>y3a T k hk y y' _ _ w1 h1 h2 LA.out LR.out LB.out
      have QA':=Lib.hid (fun w1 (hb:Below wc.heap.size wc w1)=>QA.out y0 w1 (N0.out.below hb));have QB':=Lib.hid (fun w1 (hb:Below wc.heap.size wc w1)=>QB.out y1 w1 (N1.out.below hb));generalize twoP k (Mp a) (Mp a')=M at HLL LU LB PT';generalize Mp a=A1 at QA' PT';generalize Mp a'=A2 at QB' PT';have g10:(k==10)=false:=by rcases hk with rfl | rfl | rfl <;> rfl
      have g12:(k==12)=false:=by rcases hk with rfl | rfl | rfl <;> rfl
      have g13:(k==13)=false:=by rcases hk with rfl | rfl | rfl <;> rfl
      have g14:(k==14)=false:=by rcases hk with rfl | rfl | rfl <;> rfl
      clear hat hks' hka ek0 ek1 hta htb hla hca hra hi0 hi1 n0 n1 hks KS HKS ha24 hb6 hk LA LR GA GB QA QB HT HI ET HL IT IP HCA HLA H24 H6 HN;have SS:Hid (∀ w1,Below wc.heap.size wc w1→w1.cell? ⟨B,0,none⟩=some (.int .i64 k)∧w1.cell? ⟨b2,o2,none⟩=some y0∧w1.cell? ⟨b2,o2+1,none⟩=some y1):=Lib.hid fun w1 hb=>⟨by rw [hb.cell (p:=⟨B,0,none⟩) hBl]; exact x0,by rw [hb.cell (p:=⟨b2,o2,none⟩) hb2l]; exact q0,by rw [hb.cell (p:=⟨b2,o2+1,none⟩) hb2l]; exact q1⟩
      go_wp2_with fail
      go_region_held3 (fun w'=>w'.cell? ⟨B,0,none⟩=some (.int .i64 k)∧w'.cell? ⟨b2,o2,none⟩=some y0∧w'.cell? ⟨b2,o2+1,none⟩=some y1) (first | exact SS.out _ (Below.refl _ _).drew | exact SS.out _ D1.out | exact SS.out _ D2.out | exact SS.out _ D3.out | exact SS.out _ D4.out | fail) (first
        | (go_at_call 73
           (with_reducible refine (QA'.out _ (Below.refl _ _).drew).mono ?_)
           rintro e w1 ⟨a1,n1,rfl,ht1,hb1⟩;have D1:=Lib.hid ((Below.refl wc.heap.size wc).drew.trans hb1);have TA:Hid (PsO any w1 (.slice a1 A1.length n1) A1):=Lib.hid (ht1.imp fun _ _ _=>trivial);clear ht1 hb1)
        | (go_at_call 73
           (with_reducible refine (QB'.out _ D1.out).mono ?_)
           rintro e w2 ⟨a2,n2,rfl,ht2,hb2⟩;have D2:=Lib.hid (D1.out.trans (hb2.mono D1.out.size));have TB:Hid (PsO any w2 (.slice a2 A2.length n2) A2):=Lib.hid (ht2.imp fun _ _ _=>trivial);have TA2:=Lib.hid (TA.out.below hb2);clear ht2 hb2)
        | (go_at_call 112
           (with_reducible refine (PT'.out _ _ _ TA2.out TB.out).mono ?_)
           rintro e w3 ⟨a3,n3,rfl,ht3,hb3⟩;have D3:=Lib.hid (D2.out.trans (hb3.mono D2.out.size));have CS:=Lib.hid (setP_any _ _ M w3 ht3 LB.out LU.out);clear ht3 hb3)
        | (go_at_call 108
           (with_reducible refine CS.out.mono ?_)
           rintro e w4 ⟨a4,n4,rfl,ht4,hb4⟩;have D4:=Lib.hid (D3.out.trans (hb4.mono D3.out.size));have T4:Hid (PsO any w4 (.slice a4 (pnorm M).length n4) (pnorm M)):=Lib.hid (ht4.imp fun _ _ _=>trivial);rw [← HLL.out] at T4;clear hb4 ht4)
        | fail)
      go_wp2_with fail;go_ret;rw [← HLL.out] at *;exact ⟨_,_,rfl,T4.out.imp fun _ _ _=>.inl trivial,BB.out.trans (D4.out.mono BB.out.size)⟩
    · obtain ⟨a,a',hka,ek0,ek1,hta,htb,hla,hca,hra⟩:=cut2 HT.out (by show Rw.ar k=2; rw [hk]; rfl);rw [ek0] at hi0;rw [ek1] at hi1;have hks':=HKS.out.symm.trans hka;rw [hks'] at KS;have HLA:=Lib.hid hla;have HCA:=Lib.hid (hca all);have hb6:acs a+acs a'≤6:=by have:=HCA.out; have:=H6.out; unfold acs at *; omega
      rcases rws_form KS.out with ⟨h0,_⟩ | ⟨b2,o2,c2,rfl,hat⟩
      · cases h0
      obtain ⟨y0,q0,n0⟩:=hat 0 (by simp);obtain ⟨y1,q1,n1⟩:=hat 1 (by simp);simp only [List.getElem_cons_zero,List.getElem_cons_succ,Nat.add_zero] at q0 n0 q1 n1;have hb2l:b2<wc.heap.size:=Ap.z0a q0;have N0:=Lib.hid n0;have N1:=Lib.hid n1;have ha24:a.length+a'.length≤23:=by have:=HLA.out; have:=H24.out; omega
      have HLL:Hid (L=pnorm (going (Mt a) (Mt a')++[way])):=Lib.hid (HL.out.symm.trans (ET.out.trans ((z7u (l:=(⟨k,nm',sg'⟩:Nd)::rest) hk).trans (by rw [ek0,ek1]))));subst hk;have QA:=Lib.hid (IT.out a (by rw [hka]; simp) hi0);have QB:=Lib.hid (IT.out a' (by rw [hka]; simp) (So.z0j hi1));have GA:=Lib.hid (gt hta hi0);have GB:=Lib.hid (gt htb (So.z0j hi1))
      have LA:Hid ((Mt a).length≤1000000000000∧(Mt a').length≤1000000000000):=Lib.hid (by
        have h1:=Nat.le_trans GA.out.len (z1n (by omega) (by omega));have h2:=Nat.le_trans GB.out.len (z1n (by omega) (by omega));omega)
      have LB:Hid ((going (Mt a) (Mt a')++[way]).length≤1000000000000):=Lib.hid (Nat.le_trans (x5g (z3q GA.out.len GB.out.len)) (Nat.le_trans (z1n (by omega) hb6) (by omega)));have LG:Hid ((going (Mt a) (Mt a')).length≤1000000000000):=Lib.hid (Nat.le_trans (z3q GA.out.len GB.out.len) (Nat.le_trans (z1n (by omega) hb6) (by omega)))
      have LU:Hid (∀ t∈going (Mt a) (Mt a')++[way],t.p.a.length≤1000000∧t.q.a.length≤1000000):=Lib.hid fun t ht=>by
        have h2:=(way_cp (z8d (GA.out.cnt all) (GB.out.cnt all))).len ht;unfold acs at hb6;omega
      have PO:Hid (∀ y y' w1,TsO any w1 y (Mt a)→TsO any w1 y' (Mt a')→Calls Tryz.prog 109 #[y,y'] w1 (OwnP any (going (Mt a) (Mt a')) w1)):=Lib.hid fun y y' w1 h1 h2=>x3v y y' _ _ w1 h1 h2 LA.out.1 LA.out.2 LG.out
      have PT':Hid (∀ y y' w1,TsO any w1 y (Mt a)→TsO any w1 y' (Mt a')→Calls Tryz.prog 109 #[y,y'] w1 (OutP any (going (Mt a) (Mt a')) w1)):=Lib.hid fun y y' w1 h1 h2=>y5y y y' _ _ w1 h1 h2 LA.out.1 LA.out.2 LG.out
      have QA':=Lib.hid (fun w1 (hb:Below wc.heap.size wc w1)=>QA.out y0 w1 (N0.out.below hb));have QB':=Lib.hid (fun w1 (hb:Below wc.heap.size wc w1)=>QB.out y1 w1 (N1.out.below hb));clear PT';generalize going (Mt a) (Mt a')=M at HLL LU LB PO LG;obtain ⟨MW,hMW⟩:∃ MW,M++[way]=MW:=⟨_,rfl⟩
      rw [hMW] at HLL LU LB;have HMW:=Lib.hid hMW;clear hMW;generalize Mt a=A1 at QA' PO;generalize Mt a'=A2 at QB' PO;clear hat hks' hka ek0 ek1 hta htb hla hca hra hi0 hi1 n0 n1 hks KS HKS ha24 hb6 LA GA GB QA QB HT HI ET HL IT IP HCA HLA H24 H6 HN;have SS:Hid (∀ w1,Below wc.heap.size wc w1→w1.cell? ⟨b2,o2,none⟩=some y0∧w1.cell? ⟨b2,o2+1,none⟩=some y1):=Lib.hid fun w1 hb=>⟨by rw [hb.cell (p:=⟨b2,o2,none⟩) hb2l]; exact q0,by rw [hb.cell (p:=⟨b2,o2+1,none⟩) hb2l]; exact q1⟩
      go_wp2_with fail;refine (z2b 3 _).mono ?_;rintro e w1 ⟨rfl,hb1⟩;have B1:=Lib.hid hb1;clear hb1;go_wp2_with fail;refine (z2b 1 _).mono ?_;rintro e w2 ⟨rfl,hb2⟩;have B2:=Lib.hid (B1.out.trans (hb2.mono B1.out.size));clear hb2;go_wp2_with fail
      -- region of kind 10
      have BW:Hid (Below wc.heap.size wc (w2.alloc (.cells #[.slice none 0 0,.int .i64 3,.slice none 0 0,.int .i64 1] 97))):=Lib.hid (B2.out.alloc B2.out.size _);have zz:∀ j u,(#[Value.slice none 0 0,.int .i64 3,.slice none 0 0,.int .i64 1]:Array Value)[j]?=some u→(w2.alloc (.cells #[.slice none 0 0,.int .i64 3,.slice none 0 0,.int .i64 1] 97)).cell? ⟨w2.heap.size,j,none⟩=some u:=fun j u hu=>by rw [World.cell?_alloc_new]; exact hu
      have z0:=zz 0 _ rfl;have z1:=zz 1 _ rfl;have z2:=zz 2 _ rfl;have z3:=zz 3 _ rfl;clear zz;have hZ:w2.heap.size<(w2.alloc (.cells #[.slice none 0 0,.int .i64 3,.slice none 0 0,.int .i64 1] 97)).heap.size:=by simp
      generalize w2.alloc (.cells #[.slice none 0 0,.int .i64 3,.slice none 0 0,.int .i64 1] 97)=W0 at *;obtain ⟨Z,hZZ⟩:∃ Z,w2.heap.size=Z:=⟨_,rfl⟩
      rw [hZZ] at hZ z0 z1 z2 z3 ⊢;have Z0:=Lib.hid z0;have Z1:=Lib.hid z1;have Z2:=Lib.hid z2;have Z3:=Lib.hid z3;have HZ:=Lib.hid hZ;have SB:=Lib.hid (fun w1 (hb:Below W0.heap.size W0 w1)=>BW.out.trans (hb.mono BW.out.size));clear hZZ hZ z0 z1 z2 z3 B1 B2;refine Rg.z5y (by kernel_rfl) [(0,some 30),(1,some 31),(2,some 32),(3,some 33),(4,some 34),(5,some 35),(6,some 36),(7,some 37),(8,some 38),(9,some 39),(10,some 40),(11,some 41),(12,some 42),(13,some 2)] (by rfl) (by kernel_rfl) (by kernel_rfl) (G10 W0 (.slice (some ⟨b2,o2,none⟩) 2 c2) (.pointer (some ⟨b2,o2,none⟩)) (.pointer (some ⟨b2,o2+1,none⟩)) y0 y1 A1 A2 M MW) ?_ ⟨⟨⟨⟨⟨⟨⟨⟨⟨⟨⟨⟨⟨⟨True.intro,?_⟩,?_⟩,?_⟩,?_⟩,?_⟩,?_⟩,?_⟩,?_⟩,?_⟩,?_⟩,?_⟩,?_⟩,?_⟩,?_⟩ ?_
      · intro us
        exact ⟨(Below.refl _ _).drew,fun k hk=>by
          have hk:14≤k:=by simpa using hk
          match k,hk with
          | k+14,_=>exact trivial,by simp,by simp⟩
      · intro o ho f us wl al ha g hf hdep K hK;obtain rfl:=Option.some.inj ho;have e4:al.tmps[4]?.getD undef=(.slice (some ⟨b2,o2,none⟩) 2 c2):=by rw [← Rg.z0h,ha]; exact (Rg.z1l _ _ _ (by rfl)).trans rfl
        have HG:=Lib.hid (g.put (i:=0) (v:=(.slice (some ⟨b2,o2,none⟩) 2 c2)) (Below.refl _ _) (by decide) (fun h=>absurd h (by decide)) rfl);clear ha g hf hdep;refine Rg.z0b rfl rfl ?_;go_simp;exact hK _ _ HG.out
      · intro o ho f us wl al ha g hf hdep K hK;obtain rfl:=Option.some.inj ho;have d0:f 0=true:=hdep ⟨0,.data⟩ (by simp) rfl;have e30:al.tmps[30]?.getD undef=us 0:=by rw [← Rg.z0h,ha]; exact Rg.z0i _ _ _ (by rfl) (by simp) (by simp)
        have v0:us 0=(.slice (some ⟨b2,o2,none⟩) 2 c2):=g.all 0 d0;have HG:=Lib.hid (g.put (i:=1) (v:=(.pointer (some ⟨b2,o2,none⟩))) (Below.refl _ _) (by decide) (fun h=>absurd h (by decide)) rfl);clear ha g hf hdep;refine Rg.z0b rfl rfl ?_;go_simp;exact hK _ _ HG.out
      · intro o ho f us wl al ha g hf hdep K hK;obtain rfl:=Option.some.inj ho;have d1:f 1=true:=hdep ⟨1,.data⟩ (by simp) rfl;have e31:al.tmps[31]?.getD undef=us 1:=by rw [← Rg.z0h,ha]; exact Rg.z0i _ _ _ (by rfl) (by simp) (by simp)
        have v1:us 1=(.pointer (some ⟨b2,o2,none⟩)):=g.all 1 d1;have q0':=(SS.out _ (SB.out _ g.bel)).1;have HG:=Lib.hid (g.put (i:=2) (v:=y0) (Below.refl _ _) (by decide) (fun h=>absurd h (by decide)) rfl);clear ha g hf hdep;refine Rg.z0b rfl rfl ?_;go_simp;exact hK _ _ HG.out
      · intro o ho f us wl al ha g hf hdep K hK;obtain rfl:=Option.some.inj ho;have d2:f 2=true:=hdep ⟨2,.data⟩ (by simp) rfl;have e32:al.tmps[32]?.getD undef=us 2:=by rw [← Rg.z0h,ha]; exact Rg.z0i _ _ _ (by rfl) (by simp) (by simp)
        have v2:us 2=y0:=g.all 2 d2;have HG:=Lib.hid g;have CC:=Lib.hid (QA'.out wl (SB.out _ g.bel));clear ha g hf hdep;refine Rg.z0b rfl rfl ?_;go_simp;refine CC.out.mono ?_;rintro e wn ⟨an,nn,rfl,htn,hbn⟩;exact hK _ _ (HG.out.put hbn (by decide) (fun h=>absurd h (by decide)) fun _=>⟨htn.imp fun _ _ _=>trivial,_,_,rfl⟩)
      · intro o ho f us wl al ha g hf hdep K hK;obtain rfl:=Option.some.inj ho;have e4:al.tmps[4]?.getD undef=(.slice (some ⟨b2,o2,none⟩) 2 c2):=by rw [← Rg.z0h,ha]; exact (Rg.z1l _ _ _ (by rfl)).trans rfl
        have HG:=Lib.hid (g.put (i:=4) (v:=(.slice (some ⟨b2,o2,none⟩) 2 c2)) (Below.refl _ _) (by decide) (fun h=>absurd h (by decide)) rfl);clear ha g hf hdep;refine Rg.z0b rfl rfl ?_;go_simp;exact hK _ _ HG.out
      · intro o ho f us wl al ha g hf hdep K hK;obtain rfl:=Option.some.inj ho;have d4:f 4=true:=hdep ⟨4,.data⟩ (by simp) rfl;have e34:al.tmps[34]?.getD undef=us 4:=by rw [← Rg.z0h,ha]; exact Rg.z0i _ _ _ (by rfl) (by simp) (by simp)
        have v4:us 4=(.slice (some ⟨b2,o2,none⟩) 2 c2):=g.all 4 d4;have HG:=Lib.hid (g.put (i:=5) (v:=(.pointer (some ⟨b2,o2+1,none⟩))) (Below.refl _ _) (by decide) (fun h=>absurd h (by decide)) rfl);clear ha g hf hdep;refine Rg.z0b rfl rfl ?_;go_simp;exact hK _ _ HG.out
      · intro o ho f us wl al ha g hf hdep K hK;obtain rfl:=Option.some.inj ho;have d5:f 5=true:=hdep ⟨5,.data⟩ (by simp) rfl;have e35:al.tmps[35]?.getD undef=us 5:=by rw [← Rg.z0h,ha]; exact Rg.z0i _ _ _ (by rfl) (by simp) (by simp)
        have v5:us 5=(.pointer (some ⟨b2,o2+1,none⟩)):=g.all 5 d5;have q1':=(SS.out _ (SB.out _ g.bel)).2;have HG:=Lib.hid (g.put (i:=6) (v:=y1) (Below.refl _ _) (by decide) (fun h=>absurd h (by decide)) rfl);clear ha g hf hdep;refine Rg.z0b rfl rfl ?_;go_simp;exact hK _ _ HG.out
      · intro o ho f us wl al ha g hf hdep K hK;obtain rfl:=Option.some.inj ho;have d6:f 6=true:=hdep ⟨6,.data⟩ (by simp) rfl;have d3:f 3=true:=hdep ⟨3,.chain⟩ (by simp) rfl;have e36:al.tmps[36]?.getD undef=us 6:=by rw [← Rg.z0h,ha]; exact Rg.z0i _ _ _ (by rfl) (by simp) (by simp)
        have v6:us 6=y1:=g.all 6 d6;have HG:=Lib.hid g;have CC:=Lib.hid (QB'.out wl (SB.out _ g.bel));clear ha g hf hdep;refine Rg.z0b rfl rfl ?_;go_simp;refine CC.out.mono ?_;rintro e wn ⟨an,nn,rfl,htn,hbn⟩;exact hK _ _ (HG.out.put hbn (by decide) (fun h=>absurd h (by decide)) fun _=>⟨htn.imp fun _ _ _=>trivial,_,_,rfl⟩)
      · intro o ho f us wl al ha g hf hdep K hK;obtain rfl:=Option.some.inj ho;have d3:f 3=true:=hdep ⟨3,.data⟩ (by simp) rfl;have d7:f 7=true:=hdep ⟨7,.data⟩ (by simp) rfl;have e33:al.tmps[33]?.getD undef=us 3:=by rw [← Rg.z0h,ha]; exact Rg.z0i _ _ _ (by rfl) (by simp) (by simp)
        have e37:al.tmps[37]?.getD undef=us 7:=by rw [← Rg.z0h,ha]; exact Rg.z0i _ _ _ (by rfl) (by simp) (by simp)
        obtain ⟨t3,a3,n3,v3⟩:=g.all 3 d3 hf;obtain ⟨t7,a7,n7,v7⟩:=g.all 7 d7 hf;rw [v3] at t3 e33;rw [v7] at t7 e37;have HG:=Lib.hid g;have CC:=Lib.hid (PO.out _ _ wl t3 t7);clear ha g hf hdep t3 t7 v3 v7;refine Rg.z0b rfl rfl ?_;go_simp;refine CC.out.mono ?_;rintro e wn ⟨an,nn,cs,rfl,hown,hcl,hbn⟩;exact hK _ _ (HG.out.put hbn (by decide) (fun h=>absurd h (by decide)) fun _=>⟨_,_,cs,rfl,Ap.z3y hown HG.out.bel.size,hcl.imp (EP.map fun _ _ h=>z0x h fun _ _ h=>⟨trivial,h.2⟩)⟩)
      · intro o ho f us wl al ha g hf hdep K hK;obtain rfl:=Option.some.inj ho;have e5:al.tmps[5]?.getD undef=(.pointer (some ⟨Z,0,none⟩)):=by rw [← Rg.z0h,ha]; exact (Rg.z1l _ _ _ (by rfl)).trans rfl
        have z0':=(g.bel.cell (p:=⟨Z,0,none⟩) HZ.out).trans Z0.out;have z1':=(g.bel.cell (p:=⟨Z,1,none⟩) HZ.out).trans Z1.out;have z2':=(g.bel.cell (p:=⟨Z,2,none⟩) HZ.out).trans Z2.out;have z3':=(g.bel.cell (p:=⟨Z,3,none⟩) HZ.out).trans Z3.out;have HG:=Lib.hid (g.put (i:=9) (v:=.agg #[.slice none 0 0,.int .i64 3,.slice none 0 0,.int .i64 1]) (Below.refl _ _) (by decide) (fun h=>absurd h (by decide)) rfl);clear ha g hf hdep;refine Rg.z0b rfl rfl ?_;go_simp;exact hK _ _ HG.out
      · intro o ho f us wl al ha g hf hdep K hK;obtain rfl:=Option.some.inj ho;have d9:f 9=true:=hdep ⟨9,.data⟩ (by simp) rfl;have e39:al.tmps[39]?.getD undef=us 9:=by rw [← Rg.z0h,ha]; exact Rg.z0i _ _ _ (by rfl) (by simp) (by simp)
        have v9:us 9=.agg #[.slice none 0 0,.int .i64 3,.slice none 0 0,.int .i64 1]:=g.all 9 d9;have HG:=Lib.hid g;clear ha g hf hdep;refine Rg.z0b rfl rfl ?_;go_simp;exact hK _ _ (HG.out.put (bel1 _ _) (by decide) (fun h=>absurd h (by decide)) fun _=>⟨_,rfl,z9w _ _⟩)
      · intro o ho f us wl al ha g hf hdep K hK;obtain rfl:=Option.some.inj ho;have d8:f 8=true:=hdep ⟨8,.data⟩ (by simp) rfl;have d10:f 10=true:=hdep ⟨10,.data⟩ (by simp) rfl;have e38:al.tmps[38]?.getD undef=us 8:=by rw [← Rg.z0h,ha]; exact Rg.z0i _ _ _ (by rfl) (by simp) (by simp)
        have e40:al.tmps[40]?.getD undef=us 10:=by rw [← Rg.z0h,ha]; exact Rg.z0i _ _ _ (by rfl) (by simp) (by simp)
        obtain ⟨a8,n8,cs8,v8,o8,l8⟩:=g.all 8 d8 hf;obtain ⟨S,v10,h10⟩:=g.all 10 d10 hf;obtain ⟨a9,n9,w9,hrun,hps,hb9⟩:=way_app o8 l8 g.bel LG.out h10;rw [HMW.out] at hrun hps;rw [v8] at e38;rw [v10] at e40;have HG:=Lib.hid (g.put11 hb9 hf d8 ⟨hps,_,_,rfl⟩);clear ha g hf hdep o8 l8 hps hb9 h10 v8 v10;refine Rg.z0b rfl rfl ?_;exact wp_append_run _ _ _ _ rfl _ _ (by rw [Rg.z0h]; exact e38) (by rw [Rg.z0h]; exact e40) _ w9 hrun (hK _ _ HG.out)
      · intro o ho f us wl al ha g hf hdep K hK;obtain rfl:=Option.some.inj ho;have d11:f 11=true:=hdep ⟨11,.data⟩ (by simp) rfl;have e41:al.tmps[41]?.getD undef=us 11:=by rw [← Rg.z0h,ha]; exact Rg.z0i _ _ _ (by rfl) (by simp) (by simp)
        obtain ⟨t11,a11,n11,v11⟩:=g.all 11 d11 hf;rw [v11] at t11 e41;have HG:=Lib.hid g;have CC:=Lib.hid (setP_any any _ (MW) wl t11 LB.out LU.out);clear ha g hf hdep t11 v11;refine Rg.z0b rfl rfl ?_;go_simp;refine CC.out.mono ?_;rintro e wn ⟨an,nn,rfl,htn,hbn⟩;exact hK _ _ (HG.out.put hbn (by decide) (fun _=>d11) ⟨htn.imp fun _ _ _=>trivial,_,_,rfl⟩)
      · intro o ho f us wl al ha g hf hdep K hK;obtain rfl:=Option.some.inj ho;have d12:f 12=true:=hdep ⟨12,.data⟩ (by simp) rfl;have e42:al.tmps[42]?.getD undef=us 12:=by rw [← Rg.z0h,ha]; exact Rg.z0i _ _ _ (by rfl) (by simp) (by simp)
        have v12:=g.all 12 d12;have d11:=g.late.1 d12;have HG:=Lib.hid (g.put (i:=13) (v:=us 12) (Below.refl _ _) (by decide) (fun _=>d11) v12);clear ha g hf hdep v12;refine Rg.z0b rfl rfl ?_;go_simp;exact hK _ _ HG.out
      · intro us wz g;obtain ⟨t13,a13,n13,v13⟩:=g.all 13 rfl;have HB:=Lib.hid (SB.out _ g.bel);rw [v13] at t13;have T13:=Lib.hid t13;rw [← HLL.out] at T13 v13;clear g t13;simp only [Rg.puts,Act.put,List.setIfInBounds_toArray,List.set_cons_zero,List.set_cons_succ,v13];go_wp2_with fail;go_ret;exact ⟨_,_,rfl,T13.out.imp fun _ _ _=>.inl trivial,BB.out.trans (HB.out.mono BB.out.size)⟩
      -- end of it
    · obtain ⟨a,a',hka,ek0,ek1,hta,htb,hla,hca,hra⟩:=cut2 HT.out (by show Rw.ar k=2; rw [hk]; rfl);rw [ek0] at hi0;rw [ek1] at hi1;have hks':=HKS.out.symm.trans hka;rw [hks'] at KS;have HLA:=Lib.hid hla;have HCA:=Lib.hid (hca all);have hb6:acs a+acs a'≤6:=by have:=HCA.out; have:=H6.out; unfold acs at *; omega
      rcases rws_form KS.out with ⟨h0,_⟩ | ⟨b2,o2,c2,rfl,hat⟩
      · cases h0
      obtain ⟨y0,q0,n0⟩:=hat 0 (by simp);obtain ⟨y1,q1,n1⟩:=hat 1 (by simp);simp only [List.getElem_cons_zero,List.getElem_cons_succ,Nat.add_zero] at q0 n0 q1 n1;have hb2l:b2<wc.heap.size:=Ap.z0a q0;have N0:=Lib.hid n0;have N1:=Lib.hid n1;have ha24:a.length+a'.length≤23:=by have:=HLA.out; have:=H24.out; omega
      have HLL:Hid (L=pnorm (going (Mt a) (Mt a'))):=Lib.hid (HL.out.symm.trans (ET.out.trans ((y2e (l:=(⟨k,nm',sg'⟩:Nd)::rest) hk).trans (by rw [ek0,ek1]))));subst hk;have QA:=Lib.hid (IT.out a (by rw [hka]; simp) hi0);have QB:=Lib.hid (IT.out a' (by rw [hka]; simp) (So.z0j hi1));have GA:=Lib.hid (gt hta hi0);have GB:=Lib.hid (gt htb (So.z0j hi1))
      have LA:Hid ((Mt a).length≤1000000000000∧(Mt a').length≤1000000000000):=Lib.hid (by
        have h1:=Nat.le_trans GA.out.len (z1n (by omega) (by omega));have h2:=Nat.le_trans GB.out.len (z1n (by omega) (by omega));omega)
      have LB:Hid ((going (Mt a) (Mt a')).length≤1000000000000):=Lib.hid (Nat.le_trans (z3q GA.out.len GB.out.len) (Nat.le_trans (z1n (by omega) hb6) (by omega)));have LG:Hid ((going (Mt a) (Mt a')).length≤1000000000000):=Lib.hid (Nat.le_trans (z3q GA.out.len GB.out.len) (Nat.le_trans (z1n (by omega) hb6) (by omega)))
      have LU:Hid (∀ t∈going (Mt a) (Mt a'),t.p.a.length≤1000000∧t.q.a.length≤1000000):=Lib.hid fun t ht=>by
        have h2:=(z8d (GA.out.cnt all) (GB.out.cnt all)).len ht;unfold acs at hb6;omega
      have PT':Hid (∀ y y' w1,TsO any w1 y (Mt a)→TsO any w1 y' (Mt a')→Calls Tryz.prog 109 #[y,y'] w1 (OutP any (going (Mt a) (Mt a')) w1)):=Lib.hid fun y y' w1 h1 h2=>y5y y y' _ _ w1 h1 h2 LA.out.1 LA.out.2 LG.out
      have QA':=Lib.hid (fun w1 (hb:Below wc.heap.size wc w1)=>QA.out y0 w1 (N0.out.below hb));have QB':=Lib.hid (fun w1 (hb:Below wc.heap.size wc w1)=>QB.out y1 w1 (N1.out.below hb));generalize going (Mt a) (Mt a')=M at HLL LU LB PT' LG;generalize Mt a=A1 at QA' PT';generalize Mt a'=A2 at QB' PT';clear hat hks' hka ek0 ek1 hta htb hla hca hra hi0 hi1 n0 n1 hks KS HKS ha24 hb6 LA GA GB QA QB HT HI ET HL IT IP HCA HLA H24 H6 HN;have SS:Hid (∀ w1,Below wc.heap.size wc w1→w1.cell? ⟨b2,o2,none⟩=some y0∧w1.cell? ⟨b2,o2+1,none⟩=some y1):=Lib.hid fun w1 hb=>⟨by rw [hb.cell (p:=⟨b2,o2,none⟩) hb2l]; exact q0,by rw [hb.cell (p:=⟨b2,o2+1,none⟩) hb2l]; exact q1⟩
      go_wp2_with fail
      go_region_held3 (fun w'=>w'.cell? ⟨b2,o2,none⟩=some y0∧w'.cell? ⟨b2,o2+1,none⟩=some y1) (first | exact SS.out _ (Below.refl _ _).drew | exact SS.out _ D1.out | exact SS.out _ D2.out | exact SS.out _ D3.out | exact SS.out _ D4.out | fail) (first
        | (go_at_call 42
           (with_reducible refine (QA'.out _ (Below.refl _ _).drew).mono ?_)
           rintro e w1 ⟨a1,n1,rfl,ht1,hb1⟩;have D1:=Lib.hid ((Below.refl wc.heap.size wc).drew.trans hb1);have TA:Hid (TsO any w1 (.slice a1 A1.length n1) A1):=Lib.hid (ht1.imp fun _ _ _=>trivial);clear ht1 hb1)
        | (go_at_call 42
           (with_reducible refine (QB'.out _ D1.out).mono ?_)
           rintro e w2 ⟨a2,n2,rfl,ht2,hb2⟩;have D2:=Lib.hid (D1.out.trans (hb2.mono D1.out.size));have TB:Hid (TsO any w2 (.slice a2 A2.length n2) A2):=Lib.hid (ht2.imp fun _ _ _=>trivial);have TA2:=Lib.hid (TA.out.below hb2);clear ht2 hb2)
        | (go_at_call 109
           (with_reducible refine (PT'.out _ _ _ TA2.out TB.out).mono ?_)
           rintro e w3 ⟨a3,n3,rfl,ht3,hb3⟩;have D3:=Lib.hid (D2.out.trans (hb3.mono D2.out.size));have CS:=Lib.hid (setP_any _ _ M w3 ht3 LB.out LU.out);clear ht3 hb3)
        | (go_at_call 108
           (with_reducible refine CS.out.mono ?_)
           rintro e w4 ⟨a4,n4,rfl,ht4,hb4⟩;have D4:=Lib.hid (D3.out.trans (hb4.mono D3.out.size));have T4:Hid (PsO any w4 (.slice a4 (pnorm M).length n4) (pnorm M)):=Lib.hid (ht4.imp fun _ _ _=>trivial);rw [← HLL.out] at T4;clear hb4 ht4)
        | fail)
      go_wp2_with fail;go_ret;rw [← HLL.out] at *;exact ⟨_,_,rfl,T4.out.imp fun _ _ _=>.inl trivial,BB.out.trans (D4.out.mono BB.out.size)⟩
    · obtain ⟨a,a',hka,ek0,ek1,hta,htb,hla,hca,hra⟩:=cut2 HT.out (by show Rw.ar k=2; rw [hk]; rfl);rw [ek0] at hi0;rw [ek1] at hi1;have hks':=HKS.out.symm.trans hka;rw [hks'] at KS;have HLA:=Lib.hid hla;have HCA:=Lib.hid (hca all);have hb6:acs a+acs a'≤6:=by have:=HCA.out; have:=H6.out; unfold acs at *; omega
      rcases rws_form KS.out with ⟨h0,_⟩ | ⟨b2,o2,c2,rfl,hat⟩
      · cases h0
      obtain ⟨y0,q0,n0⟩:=hat 0 (by simp);obtain ⟨y1,q1,n1⟩:=hat 1 (by simp);simp only [List.getElem_cons_zero,List.getElem_cons_succ,Nat.add_zero] at q0 n0 q1 n1;have hb2l:b2<wc.heap.size:=Ap.z0a q0;have N0:=Lib.hid n0;have N1:=Lib.hid n1;have ha24:a.length+a'.length≤23:=by have:=HLA.out; have:=H24.out; omega
      have HLL:Hid (L=pnorm (stack (Mp a) (Mt a'))):=Lib.hid (HL.out.symm.trans (ET.out.trans ((y2d (l:=(⟨k,nm',sg'⟩:Nd)::rest) hk).trans (by rw [ek0,ek1]))));subst hk;have QA:=Lib.hid (IP.out a (by rw [hka]; simp) hi0);have QB:=Lib.hid (IT.out a' (by rw [hka]; simp) (So.z0j hi1));have GA:=Lib.hid (gp hta hi0);have GB:=Lib.hid (gt htb (So.z0j hi1))
      have LA:Hid ((Mp a).length≤1000000000000∧(Mt a').length≤1000000000000):=Lib.hid (by
        have h1:=Nat.le_trans GA.out.len (z1n (by omega) (by omega));have h2:=Nat.le_trans GB.out.len (z1n (by omega) (by omega));omega)
      have LB:Hid ((stack (Mp a) (Mt a')).length≤1000000000000):=Lib.hid (Nat.le_trans (z8q GA.out.len GB.out.len) (Nat.le_trans (z1n (by omega) hb6) (by omega)));have LG:Hid ((stack (Mp a) (Mt a')).length≤1000000000000):=Lib.hid (Nat.le_trans (z8q GA.out.len GB.out.len) (Nat.le_trans (z1n (by omega) hb6) (by omega)))
      have LU:Hid (∀ t∈stack (Mp a) (Mt a'),t.p.a.length≤1000000∧t.q.a.length≤1000000):=Lib.hid fun t ht=>by
        have h2:=(y9w (GA.out.cnt all) (GB.out.cnt all)).len ht;unfold acs at hb6;omega
      have LR:Hid (∀ x∈Mp a,∀ t∈Mt a',x.q.a.length+t.a.length≤1000000):=Lib.hid fun t ht u hu=>by
        have h1:=(GA.out.cnt all).len ht;have h2:=(GB.out.cnt all).len hu;unfold acs at hb6;omega
      have PT':Hid (∀ y y' w1,PsO any w1 y (Mp a)→TsO any w1 y' (Mt a')→Calls Tryz.prog 110 #[y,y'] w1 (OutP any (stack (Mp a) (Mt a')) w1)):=Lib.hid fun y y' w1 h1 h2=>y7f T y y' _ _ w1 h1 h2 LA.out.1 LA.out.2 LR.out LG.out
      have QA':=Lib.hid (fun w1 (hb:Below wc.heap.size wc w1)=>QA.out y0 w1 (N0.out.below hb));have QB':=Lib.hid (fun w1 (hb:Below wc.heap.size wc w1)=>QB.out y1 w1 (N1.out.below hb));generalize stack (Mp a) (Mt a')=M at HLL LU LB PT' LG;generalize Mp a=A1 at QA' PT';generalize Mt a'=A2 at QB' PT';clear LR hat hks' hka ek0 ek1 hta htb hla hca hra hi0 hi1 n0 n1 hks KS HKS ha24 hb6 LA GA GB QA QB HT HI ET HL IT IP HCA HLA H24 H6 HN;have SS:Hid (∀ w1,Below wc.heap.size wc w1→w1.cell? ⟨b2,o2,none⟩=some y0∧w1.cell? ⟨b2,o2+1,none⟩=some y1):=Lib.hid fun w1 hb=>⟨by rw [hb.cell (p:=⟨b2,o2,none⟩) hb2l]; exact q0,by rw [hb.cell (p:=⟨b2,o2+1,none⟩) hb2l]; exact q1⟩
      go_wp2_with fail
      go_region_held3 (fun w'=>w'.cell? ⟨b2,o2,none⟩=some y0∧w'.cell? ⟨b2,o2+1,none⟩=some y1) (first | exact SS.out _ (Below.refl _ _).drew | exact SS.out _ D1.out | exact SS.out _ D2.out | exact SS.out _ D3.out | exact SS.out _ D4.out | fail) (first
        | (go_at_call 73
           (with_reducible refine (QA'.out _ (Below.refl _ _).drew).mono ?_)
           rintro e w1 ⟨a1,n1,rfl,ht1,hb1⟩;have D1:=Lib.hid ((Below.refl wc.heap.size wc).drew.trans hb1);have TA:Hid (PsO any w1 (.slice a1 A1.length n1) A1):=Lib.hid (ht1.imp fun _ _ _=>trivial);clear ht1 hb1)
        | (go_at_call 42
           (with_reducible refine (QB'.out _ D1.out).mono ?_)
           rintro e w2 ⟨a2,n2,rfl,ht2,hb2⟩;have D2:=Lib.hid (D1.out.trans (hb2.mono D1.out.size));have TB:Hid (TsO any w2 (.slice a2 A2.length n2) A2):=Lib.hid (ht2.imp fun _ _ _=>trivial);have TA2:=Lib.hid (TA.out.below hb2);clear ht2 hb2)
        | (go_at_call 110
           (with_reducible refine (PT'.out _ _ _ TA2.out TB.out).mono ?_)
           rintro e w3 ⟨a3,n3,rfl,ht3,hb3⟩;have D3:=Lib.hid (D2.out.trans (hb3.mono D2.out.size));have CS:=Lib.hid (setP_any _ _ M w3 ht3 LB.out LU.out);clear ht3 hb3)
        | (go_at_call 108
           (with_reducible refine CS.out.mono ?_)
           rintro e w4 ⟨a4,n4,rfl,ht4,hb4⟩;have D4:=Lib.hid (D3.out.trans (hb4.mono D3.out.size));have T4:Hid (PsO any w4 (.slice a4 (pnorm M).length n4) (pnorm M)):=Lib.hid (ht4.imp fun _ _ _=>trivial);rw [← HLL.out] at T4;clear hb4 ht4)
        | fail)
      go_wp2_with fail;go_ret;rw [← HLL.out] at *;exact ⟨_,_,rfl,T4.out.imp fun _ _ _=>.inl trivial,BB.out.trans (D4.out.mono BB.out.size)⟩
    · obtain ⟨a,hka,ek0,hta,hla,hca,hra⟩:=cut1 HT.out (by show Rw.ar k=1; rw [hk]; rfl);rw [ek0] at hi0;have HLL:Hid (L=pnorm (fin sg' (Mt a))):=Lib.hid (HL.out.symm.trans (ET.out.trans ((y2c (l:=(⟨k,nm',sg'⟩:Nd)::rest) hk).trans (by rw [ek0]; rfl))));subst hk;have hks':=HKS.out.symm.trans hka;rw [hks'] at KS;have QA:=Lib.hid (IT.out a (by rw [hka]; simp) (So.z0j hi0));have GA:=Lib.hid (gt hta (So.z0j hi0));have HLA:=Lib.hid hla;have HCA:=Lib.hid (hca all)
      rcases rws_form KS.out with ⟨h0,_⟩ | ⟨b2,o2,c2,rfl,hat⟩
      · cases h0
      obtain ⟨y0,q0,n0⟩:=hat 0 (by simp);simp only [List.getElem_cons_zero,Nat.add_zero] at q0 n0;have hb2l:b2<wc.heap.size:=Ap.z0a q0;have N0:=Lib.hid n0;have ha24:a.length≤23:=by have:=HLA.out; have:=H24.out; omega
      have ha6:acs a≤6:=by have:=HCA.out; have:=H6.out; unfold acs at *; omega
      have LA:Hid ((Mt a).length≤1000000000000):=Lib.hid (Nat.le_trans GA.out.len (Nat.le_trans (z1n (by omega) ha6) (by omega)));have LB:Hid ((fin sg' (Mt a)).length≤1000000000000):=Lib.hid (by unfold fin; rw [List.length_map]; exact LA.out)
      have LU:Hid (∀ t∈fin sg' (Mt a),t.p.a.length≤1000000∧t.q.a.length≤1000000):=Lib.hid fun t ht=>by
        have h2:=(fin_cp (GA.out.cnt all)).len ht;unfold acs at ha6;omega
      have PT':Hid (∀ y w1,TsO any w1 y (Mt a)→Calls Tryz.prog 111 #[.agg #[.slice none 0 0,.int .i64 sg'],y] w1 (OutP any (fin sg' (Mt a)) w1)):=Lib.hid fun y w1 h1=>z5z any _ y ⟨[],sg'⟩ (Mt a) w1 (z4n _ _) h1 LA.out
      have QA':=Lib.hid (fun w1 (hb:Below wc.heap.size wc w1)=>QA.out y0 w1 (N0.out.below hb));generalize fin sg' (Mt a)=M at HLL LU LB PT';generalize Mt a=A1 at QA' PT';clear hat hks' hka ek0 hta hla hca hra hi0 n0 hks KS HKS ha24 ha6 LA GA QA HT HI ET HL IT IP HCA HLA H24 H6 HN;have SS:Hid (∀ w1,Below wc.heap.size wc w1→w1.cell? ⟨B,2,none⟩=some (.int .i64 sg')∧w1.cell? ⟨b2,o2,none⟩=some y0):=Lib.hid fun w1 hb=>⟨by rw [hb.cell (p:=⟨B,2,none⟩) hBl]; exact x2,by rw [hb.cell (p:=⟨b2,o2,none⟩) hb2l]; exact q0⟩
      go_wp2_with fail
      go_region_held3 (fun w'=>w'.cell? ⟨B,2,none⟩=some (.int .i64 sg')∧w'.cell? ⟨b2,o2,none⟩=some y0) (first | exact SS.out _ (Below.refl _ _).drew | exact SS.out _ D1.out | exact SS.out _ D2.out | exact SS.out _ D3.out | exact SS.out _ D4.out | fail) (first
        | (go_at_call 70
           (with_reducible refine (z2b _ _).mono ?_)
           rintro e w1 ⟨rfl,hb1⟩;have D1:=Lib.hid ((Below.refl wc.heap.size wc).drew.trans hb1);clear hb1)
        | (go_at_call 42
           (with_reducible refine (QA'.out _ D1.out).mono ?_)
           rintro e w2 ⟨a1,n1,rfl,ht2,hb2⟩;have D2:=Lib.hid (D1.out.trans (hb2.mono D1.out.size));have TA:Hid (TsO any w2 (.slice a1 A1.length n1) A1):=Lib.hid (ht2.imp fun _ _ _=>trivial);clear ht2 hb2)
        | (go_at_call 111
           (with_reducible refine (PT'.out _ _ TA.out).mono ?_)
           rintro e w3 ⟨a3,n3,rfl,ht3,hb3⟩;have D3:=Lib.hid (D2.out.trans (hb3.mono D2.out.size));have CS:=Lib.hid (setP_any _ _ M w3 ht3 LB.out LU.out);clear ht3 hb3)
        | (go_at_call 108
           (with_reducible refine CS.out.mono ?_)
           rintro e w4 ⟨a4,n4,rfl,ht4,hb4⟩;have D4:=Lib.hid (D3.out.trans (hb4.mono D3.out.size));have T4:Hid (PsO any w4 (.slice a4 (pnorm M).length n4) (pnorm M)):=Lib.hid (ht4.imp fun _ _ _=>trivial);rw [← HLL.out] at T4;clear hb4 ht4)
        | fail)
      go_wp2_with fail;go_ret;rw [← HLL.out] at *;exact ⟨_,_,rfl,T4.out.imp fun _ _ _=>.inl trivial,BB.out.trans (D4.out.mono BB.out.size)⟩
abbrev Fr (w:World) (b:Nat):Prop:=w.heap.size≤b
end Mn
end Go.Proofs.YtaapnkoooofalaaGreat
