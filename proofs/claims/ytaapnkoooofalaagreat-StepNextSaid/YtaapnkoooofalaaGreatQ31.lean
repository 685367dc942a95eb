/- The program's within and other: the walks. The program's Active, Doomed, isActive: what they tell of any row; slices.ContainsFunc over rows. The document's Enabled: the walk. What the laws of doom ask of the program; few; DoomActive: the walks. The document's leaf, made: the walks. -/
import Derived.Test.YtaapnkoooofalaaGreatQ27
import Derived.Test.YtaapnkoooofalaaGreatQ24
import Derived.Test.YtaapnkoooofalaaGreatQ29
import Derived.Test.YtaapnkoooofalaaGreatQ09
import Derived.Test.YtaapnkoooofalaaGreatQ30
import Derived.Test.YtaapnkoooofalaaGreatQ06
import Derived.Test.YtaapnkoooofalaaGreatQ11
import Derived.Test.YtaapnkoooofalaaGreatQ26
import Derived.Test.YtaapnkoooofalaaGreatQ05
import Derived.Deep.QuietTactic
import Derived.StillTailTactics

namespace Go.Proofs.YtaapnkoooofalaaGreat.Do
open Go Go.RowKit Rw So Se
set_option maxRecDepth 20000
theorem ovI_flat (t:Tm) {p:Nat} (hp:p < sz t):Pl.ovI (flat t) (p:Int)=abv t 0 p:=by
  have h1:Pl.rounds (flat t)=sz t:=by
    unfold Pl.rounds;rw [if_pos (Pl.one_tre.2 (tre_flat t)),Se.flat_len]
  unfold Pl.ovI;rw [h1,if_pos ⟨by omega,by omega⟩,Int.toNat_natCast,ov_abv t hp]
theorem own_form {w:World} {base:Nat} {y:Value} {L:List Nat} (h:w.ownsRow base 3 1 y L.length (Rx.ic L)) (h0:0 < L.length):∃ g c,y=.slice (some ⟨g,0,none⟩) L.length c∧Rx.Stk base w g c L:=by
  obtain ⟨h1,⟨rfl,h2⟩ | ⟨g,cap,cur,rfl,h2⟩⟩:=h
  · exact absurd h2 (by omega)
  · exact ⟨g,cap,rfl,h1,.inr ⟨g,cap,cur,rfl,h2⟩⟩
theorem plc_of {w:World} {g c:Nat} {P:List Nat} {f:Nat→Nat} {n:Nat} (h:Nums n g f w) (hn:P.length≤n) (hc:P.length≤c) (hP:∀ j (hj:j < P.length),P[j]=f j):Rf.Plc w (.slice (some ⟨g,0,none⟩) P.length c) P:=by
  refine ⟨by simp,some ⟨g,0,none⟩,c,rfl,hc,fun h=>(by cases h),fun _=>⟨g,0,rfl,fun j u hu=>?_⟩⟩;rw [List.getElem?_map] at hu
  cases hj:P[j]? with
  | none=>rw [hj] at hu; cases hu
  | some x=>
    rw [hj] at hu;obtain ⟨hj1,hj2⟩:=List.getElem?_eq_some_iff.1 hj;simp only [Option.map_some,Option.some.injEq] at hu;rw [Nat.zero_add,h.cell j (by omega),← hP j hj1,hj2,hu]
def Left (l:List Nd) (R:List Nat) (k:Nat):Prop:=wth l R=(R.take k++(wth l (R.drop k)).1,(wth l (R.drop k)).2)
theorem Left.start (l:List Nd) (R:List Nat):Left l R 0:=by unfold Left; simp
theorem Left.found {l:List Nd} {R:List Nat} {k:Nat} (h:Left l R k) (hk:k < R.length) (h9:kiA l R[k]=9):wth l R=(R.take k,true):=by
  unfold Left at h;rw [h,List.drop_eq_getElem_cons hk,wth,if_pos h9,List.append_nil]
theorem Left.next {l:List Nd} {R:List Nat} {k:Nat} (h:Left l R k) (hk:k < R.length) (h9:kiA l R[k]≠9):Left l R (k+1):=by
  unfold Left at h ⊢;rw [h,List.drop_eq_getElem_cons hk,wth,if_neg h9,List.take_succ_eq_append_getElem hk,List.append_assoc]
  rfl
theorem Left.done {l:List Nd} {R:List Nat} (h:Left l R R.length):wth l R=(R,false):=by
  unfold Left at h;rw [h,List.take_length,List.drop_length];simp [wth]
theorem kiA_get {l:List Nd} {u:Nat} (h:u < l.length):kiA l u=l[u].k:=kiA_at (List.getElem?_eq_getElem h)
set_option maxHeartbeats 4000000 in
theorem within_any (b off c:Nat) (t:Tm) (p:Nat) (w:World) (hat:At w b off (flat t)) (hc:sz t≤c) (hl:sz t≤400) (hp:p < sz t) :
    Calls Tryz.prog 147 #[.slice (some ⟨b,off,none⟩) (sz t) c,.int .i64 (p:Int)] w fun e w'=>∃ y,e=.returned (.tuple #[y,.bool (wth (flat t) (abv t 0 p).reverse).2])∧Rf.Plc w' y (wth (flat t) (abv t 0 p).reverse).1∧Below w.heap.size w w':=by
  have hV:=nds_drop hat (by rw [Se.flat_len]; exact hc) 0 (Nat.zero_le _);rw [List.drop_zero,Nat.sub_zero,Nat.sub_zero,Nat.zero_mul,Nat.add_zero,Se.flat_len] at hV;have HO:=Lib.hid (Pl.overP_own _ (flat t) (p:Int) w hV (by rw [Se.flat_len]; omega));rw [ovI_flat t hp] at HO;have hin:∀ u∈abv t 0 p,u < sz t:=fun u hu=>Nat.lt_trans (abv_in hp u hu) hp
  have hlen:(abv t 0 p).length≤1000:=by
    rw [← ov_abv t hp];unfold Pl.ov;exact Nat.le_trans (List.length_filter_le _ _) (by simp; omega)
  have HAT:=Lib.hid hat;have hfl:=Se.flat_len t;generalize abv t 0 p=L at HO hin hlen ⊢;obtain ⟨l,hlt⟩:∃ l,flat t=l:=⟨_,rfl⟩
  rw [hlt] at HAT hfl ⊢;clear hV hat hlt hp
  cases L with
  | nil=>
    clear hin hlen
    go_enter Tryz.func147,Tryz.ntmps147
    go_wp2_with fail;refine HO.out.mono ?_;rintro e w1 ⟨y,rfl,hown,hb1⟩;have HP:Hid (Rf.Plc w1 y []):=Lib.hid (Ap.Rd.owned hown);obtain ⟨_,a,k,rfl,-⟩:=HP.out;have D1:=Lib.hid hb1;clear hown hb1;go_wp2_with fail;refine (rev_empty a k _).mono ?_;rintro e w2 ⟨rfl,rfl⟩;go_wp2_with fail;refine Go.wp_loop_rounds 1 ?_;rw [rounds_succ];go_wp2_with fail;go_ret2;exact ⟨_,rfl,HP.out,D1.out⟩
  | cons x0 L0=>
    obtain ⟨L,hL⟩:∃ L,x0::L0=L:=⟨_,rfl⟩
    have h0:0 < L.length:=by rw [← hL]; simp
    rw [hL] at HO hin hlen ⊢;clear hL;have HIN:Hid (∀ u∈L.reverse,u < l.length):=Lib.hid fun u hu=>by rw [hfl]; exact hin u (List.mem_reverse.1 hu)
    obtain ⟨n,hn⟩:∃ n,L.length=n:=⟨_,rfl⟩
    have HREV:Hid (∀ j (hj:j < L.reverse.length),L.reverse[j]=L.getD (n - 1 - j) 0):=Lib.hid fun j hj=>by
      rw [List.getElem_reverse,List.getD_eq_getElem?_getD,List.getElem?_eq_getElem (by rw [List.length_reverse] at hj; omega),Option.getD_some]
      congr 1
      omega
    have HRL:Hid (L.reverse.length=n):=Lib.hid (by rw [List.length_reverse]; exact hn);have HN:=Lib.hid hn;rw [hn] at h0 hlen;obtain ⟨R,hR⟩:∃ R,L.reverse=R:=⟨_,rfl⟩
    rw [hR] at HIN HREV HRL ⊢;clear hin hn hR
    go_enter Tryz.func147,Tryz.ntmps147
    go_wp2_with fail;refine HO.out.mono ?_;rintro e w1 ⟨y,rfl,hown,hb1⟩;obtain ⟨g,cap,rfl,hst⟩:=own_form hown (by rw [HN.out]; exact h0);have hcap:=hst.cap.1;have hg0:w.heap.size≤g:=by obtain ⟨_,_,h,_⟩:=hst.parts; exact h
    have hg1:g < w1.heap.size:=by obtain ⟨_,h,_⟩:=hst.parts; exact Nat.lt_of_not_le fun hle=>by rw [Array.getElem?_eq_none hle] at h; cases h
    have NU:Hid (Nums n g (fun j=>L.getD j 0) w1):=Lib.hid ⟨fun j hj=>by
      rw [hst.cell j (by rw [HN.out]; exact hj),List.getD_eq_getElem?_getD,List.getElem?_eq_getElem (by rw [HN.out]; exact hj)]; rfl,hst.soft⟩
    rw [HN.out] at hcap ⊢;have D1:=Lib.hid hb1;have HG:Hid (w.heap.size≤g∧g < w1.heap.size):=Lib.hid ⟨hg0,hg1⟩;clear hown hb1 hst hg0 hg1;go_wp2_with fail;refine (rev_any g cap n _ _ hcap h0 hlen NU.out).mono ?_;rintro e w2 ⟨rfl,hnu,hb2⟩;have N2:=Lib.hid hnu;have D2:Hid (Below w.heap.size w w2):=Lib.hid (D1.out.trans (hb2.mono HG.out.1));have HG2:Hid (g < w2.heap.size):=Lib.hid (Nat.lt_of_lt_of_le HG.out.2 hb2.size);clear hnu hb2;clear NU HO HN;go_wp2_with fail
    go_loopw [4,5,15] (fun a4 a5 i wr=>∃ k:Nat,k≤n∧a4=.slice (some ⟨g,0,none⟩) n cap∧a5=.bool false∧i=.int .i64 k∧Hid (Below w2.heap.size w2 wr)∧Hid (Left l R k)) (fun _ _ i _=>n - (intOf i).toNat)
    case atStart=>exact ⟨0,Nat.zero_le _,rfl,rfl,rfl,Lib.hid (Below.refl _ _),Lib.hid (Left.start l R)⟩
    case round=>
      obtain ⟨k,hk,rfl,rfl,rfl,HB,HS⟩:=hrel;have NR:=Lib.hid (N2.out.below HB.out HG2.out);have DR:Hid (Below w.heap.size w wr):=Lib.hid (D2.out.trans (HB.out.mono D2.out.size))
      by_cases hlt:k < n
      · have e1:=NR.out.cell k hlt;have hk2:k < R.length:=by rw [HRL.out]; exact hlt
        have hu:=HIN.out _ (List.getElem_mem hk2);rw [← HREV.out k hk2] at e1;have e2:=(HAT.out _ hu).1;have e3:wr.cell? ⟨b,off+R[k]*3,none⟩=some (.int .i64 l[R[k]].k):=by rw [DR.out.cell (Ap.cell_lt e2)]; exact e2
        have hki:=kiA_get hu;rw [← hki] at e3;have FND:=Lib.hid (fun h=>HS.out.found hk2 h);have NXT:=Lib.hid (fun h=>HS.out.next hk2 h);obtain ⟨u,hu2⟩:∃ u,R[k]=u:=⟨_,rfl⟩
        rw [hu2] at e1 e3 hu FND NXT;obtain ⟨q,hq⟩:∃ q,kiA l u=q:=⟨_,rfl⟩
        rw [hq] at e3 FND NXT;have hus:(u:Int) < sz t:=by omega
        clear hu2 hki e2 hq HS
        by_cases h9:q=9
        · subst h9;have HF:=Lib.hid (FND.out rfl)
          have HP:Hid (Rf.Plc wr (.slice (some ⟨g,0,none⟩) k cap) (R.take k)):=Lib.hid (by
            have hkt:(R.take k).length=k:=by rw [List.length_take,HRL.out]; omega
            have:=plc_of (P:=R.take k) (c:=cap) NR.out (by rw [hkt]; omega) (by rw [hkt]; omega) (fun j hj=>by
              rw [List.getElem_take,HREV.out])
            rwa [hkt] at this)
          clear FND NXT;go_wp2_with fail;go_ret2;rw [HF.out];exact ⟨_,rfl,HP.out,DR.out⟩
        · have g9:(q == 9)=false:=beq_eq_false_iff_ne.2 h9;have HX:=Lib.hid (NXT.out h9);clear FND NXT h9;go_wp2_with fail
          go_roundw
          case rel=>exact ⟨k+1,by omega,rfl,rfl,by go_num,HB,HX⟩
          case measure=>simp [intOf]; omega
      · have hkl:k=n:=by omega
        subst hkl
        have HF:Hid (wth l R=(R,false)):=Lib.hid (by
          have:=HS.out;rw [← HRL.out] at this;exact this.done)
        have HP:Hid (Rf.Plc wr (.slice (some ⟨g,0,none⟩) k cap) R):=Lib.hid (by
          have:=plc_of (P:=R) (c:=cap) NR.out (by rw [HRL.out]; omega) (by rw [HRL.out]; omega) (fun j hj=>HREV.out j hj)
          rwa [HRL.out] at this)
        clear HS;go_wp2_with fail;go_ret2;rw [HF.out];exact ⟨_,rfl,HP.out,DR.out⟩
theorem two_own {base:Nat} {out:Option Nat} {w:World} {y:Value} {cs:List Value} {A B:List Nd} (h:Ap.Rd w 1 y 2 cs) (hk:Rx.OwnK base out w cs [A,B]) :
    ∃ b o c a0 a1,y=.slice (some ⟨b,o,none⟩) 2 c∧w.cell? ⟨b,o,none⟩=some a0∧w.cell? ⟨b,o+1,none⟩=some a1∧w.ownsRow base 36 3 a0 A.length (cls A)∧w.ownsRow base 36 3 a1 B.length (cls B):=by
  obtain ⟨_,a,c,rfl,_,_,hcell⟩:=h;obtain ⟨b,o,rfl,hj⟩:=hcell (by omega)
  match cs,hk with
  | [a0,a1],hk=>exact ⟨b,o,c,a0,a1,rfl,hj 0 _ rfl,hj 1 _ rfl,hk.1.1,hk.2.1.1⟩
set_option maxHeartbeats 2000000 in
theorem other_any (b off c:Nat) (l:List Nd) (u p:Nat) (A B:List Nd) (w:World) (hat:At w b off l) (hc:l.length≤c) (hl:l.length≤1000) (hu:u+1 < l.length) (hk:kids (l.drop u)=[A,B]) :
    Calls Tryz.prog 186 #[.slice (some ⟨b,off,none⟩) l.length c,.int .i64 (u:Int),.int .i64 (p:Int)] w fun e w'=>∃ y,e=.returned y∧w'.ownsRow w.heap.size 36 3 y (oth l p u).length (cls (oth l p u))∧Below w.heap.size w w':=by
  have HN:=Lib.hid (nds_drop hat hc u (by omega));have HK:=Lib.hid (Rx.kidsP_own _ (l.drop u) w HN.out (by rw [List.length_drop]; omega));rw [hk] at HK;have HS:=Lib.hid (fun w1 (hb:Below w.heap.size w w1)=>second_any b off c l u w1 (fun k hk=>⟨by rw [hb.cell (Ap.cell_lt (hat k hk).1)]; exact (hat k hk).1,by rw [hb.cell (Ap.cell_lt (hat k hk).2.1)]; exact (hat k hk).2.1,by rw [hb.cell (Ap.cell_lt (hat k hk).2.2)]; exact (hat k hk).2.2⟩) hc hl hu);have hO:oth l p u=if p < u+1+size (l.drop (u+1)) then B else A:=by unfold oth; rw [hk]; rfl
  rw [hO];generalize u+1+size (l.drop (u+1))=z at HS ⊢;obtain ⟨O,hO2⟩:∃ O,(if p < z then B else A)=O:=⟨_,rfl⟩
  have O1:Hid (p < z→O=B):=Lib.hid fun h=>by rw [← hO2,if_pos h]
  have O2:Hid (¬ p < z→O=A):=Lib.hid fun h=>by rw [← hO2,if_neg h]
  rw [hO2];clear hO hat hk hO2
  go_enter Tryz.func186,Tryz.ntmps186
  go_wp2_with fail;refine HK.out.mono ?_;rintro e w1 ⟨y,cs,rfl,hown,hrow,hb1⟩;obtain ⟨bk,ok,ck,y0,y1,rfl,q0,q1,n0,n1⟩:=two_own (Ap.Rd.owned hown) hrow;have hkl:bk < w1.heap.size:=Ap.cell_lt q0;have D1:=Lib.hid hb1;have N0:=Lib.hid (fun w2 (hb:Below w1.heap.size w1 w2)=>Ap.own_below n0 hb);have N1:=Lib.hid (fun w2 (hb:Below w1.heap.size w1 w2)=>Ap.own_below n1 hb);clear hown hrow hb1 n0 n1;go_wp2_with fail;refine (HS.out _ D1.out).mono ?_;rintro e w2 ⟨rfl,hb2⟩;have e0:w2.cell? ⟨bk,ok,none⟩=some y0:=by rw [hb2.cell (p:=⟨bk,ok,none⟩) hkl]; exact q0
  have e1:w2.cell? ⟨bk,ok+1,none⟩=some y1:=by rw [hb2.cell (p:=⟨bk,ok+1,none⟩) hkl]; exact q1
  have D2:=Lib.hid (D1.out.trans (hb2.mono D1.out.size));have M0:=Lib.hid (N0.out _ hb2);have M1:=Lib.hid (N1.out _ hb2);clear hb2 q0 q1
  by_cases hpz:p < z
  · have g:(p:Int) < z:=by omega
    have O3:=Lib.hid (O1.out hpz);clear hpz;go_wp2_with fail;go_ret;exact ⟨_,rfl,by rw [O3.out]; exact M1.out,D2.out⟩
  · have g:¬ (p:Int) < z:=by omega
    have O3:=Lib.hid (O2.out hpz);clear hpz;go_wp2_with fail;go_ret;exact ⟨_,rfl,by rw [O3.out]; exact M0.out,D2.out⟩
end Go.Proofs.YtaapnkoooofalaaGreat.Do

namespace Go.Proofs.YtaapnkoooofalaaGreat.Do
open Go Go.RowKit Rw So Se
set_option maxRecDepth 20000
theorem setP_any (v:Value) (l:List Nd) (w:World) (hv:Nds w v l) (hl:l.length≤1000) (hm:Nms l) :
    Calls Tryz.prog 13 #[v] w fun e w'=>e=.returned (.bool (setB l))∧Below w.heap.size w w':=settledQ_any v l w hv hl hm
theorem go_form {w:World} {v:Value} {t:Tm} (hv:Nds w v (flat t)):∃ b off c,v=.slice (some ⟨b,off,none⟩) (sz t) c∧sz t≤c∧At w b off (flat t):=by
  rcases hv.form with ⟨h,_⟩ | ⟨b,off,c,rfl,hc,hat⟩
  · exact absurd h (flat_ne t)
  · rw [Se.flat_len] at hc ⊢;exact ⟨b,off,c,rfl,hc,hat⟩
theorem actP_any (v:Value) (l:List Nd) (w:World) (hv:Nds w v l) (hl:l.length≤1000) (hm:Nms l) :
    Calls Tryz.prog 39 #[v] w fun e w'=>∃ y,e=.returned y∧Ints w' y (av l)∧Below w.heap.size w w':=by
  have hS:=setP_any v l w hv hl hm
  cases hs:setB l with
  | false=>
    rw [hs] at hS;rw [av_no hs];exact activeP_no v l w hv hS
  | true=>
    rw [hs] at hS;obtain ⟨t,rfl,hg,hn⟩:=set_iff.1 hs;obtain ⟨b,off,c,rfl,hc,hat⟩:=go_form hv;rw [av_go hg hn];exact activeP_go b off c t w hat hc (by have:=hg.2.1; omega) hS
set_option maxHeartbeats 1000000 in
theorem doomP_any (v:Value) (l:List Nd) (w:World) (hv:Nds w v l) (hl:l.length≤1000) (hm:Nms l) :
    Calls Tryz.prog 150 #[v] w fun e w'=>e=.returned (.bool (dm l))∧Below w.heap.size w w':=by
  have HS:=Lib.hid (setP_any v l w hv hl hm)
  cases hs:setB l with
  | false=>
    rw [hs] at HS;rw [dm_no hs];obtain ⟨_,a,c,rfl,-⟩:=hv;clear hs hm
    go_enter Tryz.func150,Tryz.ntmps150
    go_wp2_with fail;refine HS.out.mono ?_;rintro e w1 ⟨rfl,hb1⟩;have D1:=Lib.hid hb1;clear hb1;go_wp2_with fail;go_ret;exact ⟨rfl,D1.out⟩
  | true=>
    rw [hs] at HS;obtain ⟨t,rfl,hg,hn⟩:=set_iff.1 hs;obtain ⟨b,off,c,rfl,hc,hat⟩:=go_form hv;rw [dm_go hg hn];have HD:=Lib.hid (fun w1 (hb:Below w.heap.size w w1)=>doomed_any t b off c (flat t) 0 w1 (at_below hat hb rfl) (AtT.self t) (by rw [Se.flat_len]; exact hc) hl);rw [Se.flat_len] at HD;generalize bangT t=r at HD ⊢;generalize sz t=n at HS HD hc;clear hs hm hv hat hg hn hl
    go_enter Tryz.func150,Tryz.ntmps150
    go_wp2_with fail;refine HS.out.mono ?_;rintro e w1 ⟨rfl,hb1⟩;have D1:=Lib.hid hb1;clear hb1;go_wp2_with fail;refine (HD.out _ D1.out).mono ?_;rintro e w2 ⟨rfl,hb2⟩;have D2:=Lib.hid (D1.out.trans (hb2.mono D1.out.size));clear hb2;go_wp2_with fail;go_ret;exact ⟨rfl,D2.out⟩
set_option maxHeartbeats 1000000 in
theorem isActive_any (v:Value) (l:List Nd) (z:Int) (w:World) (hv:Nds w v l) (hl:l.length≤1000) (hm:Nms l) :
    Calls Tryz.prog 146 #[v,.int .i64 z] w fun e w'=>e=.returned (.bool (decide (z∈av l)))∧Below w.heap.size w w':=by
  have HA:=Lib.hid (actP_any v l w hv hl hm);have HL:Hid ((av l).length≤1000000):=Lib.hid (Nat.le_trans (av_len l) (by omega));obtain ⟨_,a,c,rfl,-⟩:=hv;generalize av l=L at HA HL ⊢;clear hm hl
  go_enter Tryz.func146,Tryz.ntmps146
  go_wp2_with fail;refine HA.out.mono ?_;rintro e w1 ⟨y,rfl,hi,hb1⟩;have D1:=Lib.hid hb1;have I1:=Lib.hid hi;clear hb1 hi;go_wp2_with fail;refine (Rx.has_any _ _ z _ I1.out HL.out).mono ?_;rintro e w2 ⟨rfl,hb2⟩;have D2:=Lib.hid (D1.out.trans (hb2.mono D1.out.size));clear hb2;go_wp2_with fail;go_ret;exact ⟨rfl,D2.out⟩
def idxB (F:List Nd→Bool):List (List Nd)→Nat→Int
  | [],_=>-1
  | r::rs,k=>if F r=true then (k:Int) else idxB F rs (k+1)
theorem idxB_any (F:List Nd→Bool) (ls:List (List Nd)) (k:Nat):decide (0≤idxB F ls k)=ls.any F:=by
  induction ls generalizing k with
  | nil=>rfl
  | cons r rs ih=>
    unfold idxB
    cases hr:F r with
    | true=>simp [hr]
    | false=>simp [hr,ih]
theorem idxB_end {F:List Nd→Bool} {ls:List (List Nd)} {k:Nat} (h:¬ k < ls.length):idxB F (ls.drop k) k=-1:=by rw [List.drop_eq_nil_of_le (by omega)]; rfl
theorem idxB_at {F:List Nd→Bool} {ls:List (List Nd)} {k:Nat} (h:k < ls.length):idxB F (ls.drop k) k=if F ls[k]=true then (k:Int) else idxB F (ls.drop (k+1)) (k+1):=by
  rw [List.drop_eq_getElem_cons h,idxB]
set_option maxHeartbeats 800000 in
theorem indexR_empty (fn:Nat) (a:Option Addr) (cap:Nat) (w:World) :
    Calls Tryz.prog 185 #[.slice a 0 cap,.func (.func fn) #[] #[]] w fun e w'=>e=.returned (.int .i64 (-1))∧Below w.heap.size w w':=by
  go_enter Tryz.func185,Tryz.ntmps185
  go_wp2_with fail;refine Go.wp_loop_rounds 1 ?_;rw [rounds_succ];go_wp2_with fail;go_ret;exact ⟨rfl,Below.refl _ _⟩
set_option maxHeartbeats 2000000 in
theorem indexR_cells (fn:Nat) (eg:∀ args w,(callFunc fn args).run Tryz.prog w=.ok (.enter fn args) w) (F:List Nd→Bool) (b off cap:Nat) (ls:List (List Nd)) (w:World) (hat:AtR w b off ls) (hl:ls.length≤1000000)
    (hF:∀ r∈ls,∀ (wr:World) (a:Value),Nds wr a r→Calls Tryz.prog fn #[a] wr fun e w'=>e=.returned (.bool (F r))∧Below wr.heap.size wr w') :
    Calls Tryz.prog 185 #[.slice (some ⟨b,off,none⟩) ls.length cap,.func (.func fn) #[] #[]] w fun e w'=>e=.returned (.int .i64 (idxB F ls 0))∧Below w.heap.size w w':=by
  have HA:=Lib.hid hat;have HF:=Lib.hid hF;clear hat hF
  go_enter Tryz.func185,Tryz.ntmps185
  go_wp2_with fail
  go_loopw [8] (fun i wr=>∃ k:Nat,k≤ls.length∧i=.int .i64 k∧Hid (Below w.heap.size w wr)∧Hid (idxB F ls 0=idxB F (ls.drop k) k)) (fun i _=>ls.length - (intOf i).toNat)
  case atStart=>exact ⟨0,Nat.zero_le _,rfl,Lib.hid (Below.refl _ _),Lib.hid rfl⟩
  case round=>
    obtain ⟨k,hk,rfl,HB,HK⟩:=hrel
    by_cases hlt:k < ls.length
    · obtain ⟨a,e1,hn⟩:=HA.out k hlt;have c1:wr.cell? ⟨b,off+k,none⟩=some a:=by rw [HB.out.cell (Ap.cell_lt e1)]; exact e1
      have HC:=Lib.hid (HF.out _ (List.getElem_mem hlt) wr a (hn.below HB.out));have HX:=Lib.hid (HK.out.trans (idxB_at hlt));obtain ⟨_,a',c',rfl,_⟩:=hn;obtain ⟨x,hx⟩:∃ x,F ls[k]=x:=⟨_,rfl⟩
      rw [hx] at HC HX;clear hx e1
      cases x with
      | true=>
        go_wp2_with fail;refine HC.out.mono ?_;rintro e w' ⟨rfl,hb'⟩;have HB':=Lib.hid hb';clear hb';go_wp2_with fail;go_ret;exact ⟨ret_int HX.out.symm,HB.out.trans (HB'.out.mono HB.out.size)⟩
      | false=>
        go_wp2_with fail;refine HC.out.mono ?_;rintro e w' ⟨rfl,hb'⟩;have HB':=Lib.hid (HB.out.trans (hb'.mono HB.out.size));clear hb';go_wp2_with fail
        go_roundw
        case rel=>exact ⟨k+1,by omega,by go_num,HB',Lib.hid (by have:=HX.out; simpa using this)⟩
        case measure=>simp [intOf]; omega
    · go_wp2_with fail;go_ret;exact ⟨ret_int (by rw [HK.out,idxB_end hlt]),HB.out⟩
set_option maxHeartbeats 800000 in
theorem containsR_any (fn:Nat) (eg:∀ args w,(callFunc fn args).run Tryz.prog w=.ok (.enter fn args) w) (F:List Nd→Bool) (v:Value) (ls:List (List Nd)) (w:World) (hv:Rws w v ls) (hl:ls.length≤1000000)
    (hF:∀ r∈ls,∀ (wr:World) (a:Value),Nds wr a r→Calls Tryz.prog fn #[a] wr fun e w'=>e=.returned (.bool (F r))∧Below wr.heap.size wr w') :
    Calls Tryz.prog 148 #[v,.func (.func fn) #[] #[]] w fun e w'=>e=.returned (.bool (ls.any F))∧Below w.heap.size w w':=by
  have HI:Hid (Calls Tryz.prog 185 #[v,.func (.func fn) #[] #[]] w fun e w'=>e=.returned (.int .i64 (idxB F ls 0))∧Below w.heap.size w w'):=by
    rcases hv.form with ⟨rfl,a,cap,rfl⟩ | ⟨b,off,cap,rfl,hat⟩
    · exact Lib.hid (indexR_empty fn a cap w)
    · exact Lib.hid (indexR_cells fn eg F b off cap ls w hat hl hF)
  have HQ:=Lib.hid (idxB_any F ls 0);obtain ⟨q,hq⟩:∃ q,idxB F ls 0=q:=⟨_,rfl⟩
  rw [hq] at HQ HI;obtain ⟨_,⟨_,a,c,rfl,-⟩,-⟩:=hv;clear hq hF
  go_enter Tryz.func148,Tryz.ntmps148
  go_wp2_with fail;refine HI.out.mono ?_;rintro e w' ⟨rfl,hb⟩;have HB:=Lib.hid hb;clear hb;go_wp2_with fail;go_ret;exact ⟨ret_bool HQ.out,HB.out⟩
end Go.Proofs.YtaapnkoooofalaaGreat.Do

namespace Go.Proofs.YtaapnkoooofalaaGreat.Me
open Go Go.RowKit Rw So Se Do
set_option maxRecDepth 20000
theorem flat_take {α β:Type} (f:α→List β) {V:List α} {k:Nat} (h:k < V.length):(V.take (k+1)).flatMap f=(V.take k).flatMap f++f V[k]:=by
  rw [List.take_succ_eq_append_getElem h,List.flatMap_append];simp
theorem av_at {l:List Nd} {k:Nat} (h:k < (av l).length):∃ q:Nat,(av l)[k]=(q:Int)∧q < l.length:=by
  obtain ⟨h0,h1⟩:=av_in (List.getElem_mem h);exact ⟨((av l)[k]).toNat,by omega,by omega⟩
theorem kn_at {l:List Nd} {q:Nat} (h:q < l.length):kn l (q:Int)=l[q].k:=by
  unfold kn;rw [Int.toNat_natCast,List.getElem?_eq_getElem h]
set_option maxHeartbeats 4000000 in
theorem enabledR_any (v:Value) (l:List Nd) (w:World) (hv:Nds w v l) (hl:l.length≤1000) (hm:Nms l) :
    Calls Tryz.prog 53 #[v] w fun e w'=>∃ y,e=.returned y∧Mvs w' y (enR l)∧Below w.heap.size w w':=by
  have HA:=Lib.hid (actR_any v l w hv hl hm);have HV:=Lib.hid (fun w1 (hb:Below w.heap.size w w1)=>hv.below hb);have HF:=Lib.hid (fun z w1 (hb:Below w.heap.size w w1)=>freR_any v l z w1 (hv.below hb) hl hm);have hvl:=Nat.le_trans (av_len l) hl;have HQ:=Lib.hid (fun k (h:k < (av l).length)=>av_at h);have HFL:=Lib.hid (fun k (h:k < (av l).length)=>flat_take (fun z=>hw (kn l z) (fr l z) z) h);have HTL:=Lib.hid (fun k=>flat_two (fun z=>hw (kn l z) (fr l z) z) (fun z=>hw_len _ _ _) ((av l).take k));have HEN:Hid (enR l=(av l).flatMap fun z=>hw (kn l z) (fr l z) z):=Lib.hid rfl;obtain ⟨_,a,c,rfl,-⟩:=id hv;generalize av l=V at HA hvl HQ HFL HTL HEN;clear hv hm
  go_enter Tryz.func53,Tryz.ntmps53
  go_wp2_with fail;refine HA.out.mono ?_;rintro e w1 ⟨y,rfl,hi,hb1⟩;have D1:=Lib.hid hb1;have I1:=Lib.hid (fun w' (hb:Below w1.heap.size w1 w')=>hi.below hb);obtain ⟨_,ay,cy,rfl,-⟩:=id hi;clear hb1 hi;go_wp2_with fail
  go_loopw [3,5] (fun o i wr=>∃ k:Nat,k≤V.length∧i=.int .i64 k∧Hid (GotM w1.heap.size wr o ((V.take k).flatMap fun z=>hw (kn l z) (fr l z) z))∧Hid (Below w1.heap.size w1 wr)) (fun _ i _=>V.length - (intOf i).toNat)
  case atStart=>exact ⟨0,Nat.zero_le _,rfl,Lib.hid (GotM.start (Nat.le_refl _)),Lib.hid (Below.refl _ _)⟩
  case round=>
    obtain ⟨k,hk,rfl,HG,HB⟩:=hrel
    by_cases hlt:k < V.length
    · rcases Ints.form (I1.out _ HB.out) with ⟨h0,_⟩ | ⟨b4,o4,c4,e4,_,hat4⟩
      · rw [h0] at hlt; simp at hlt
      injection e4 with e41 e42 e43;subst e41; subst e43;have q4:=hat4 k hlt;obtain ⟨q,hq,hql⟩:=HQ.out k hlt;have DW:=Lib.hid (D1.out.trans (HB.out.mono D1.out.size));have HN:=HV.out _ DW.out
      rcases HN.form with ⟨h0,_⟩ | ⟨b5,o5,c5,e5,_,hat5⟩
      · rw [h0] at hql; simp at hql
      injection e5 with e51 e52 e53;subst e51; subst e53;obtain ⟨f1,-,-⟩:=hat5 q hql;have HT:=Lib.hid (HFL.out k hlt);have HTK:=HTL.out k;have hkl:=kn_at hql;rw [hq] at q4 HT;rw [← hkl] at f1;have HFQ:=Lib.hid (fun w2 (hb:Below w.heap.size w w2)=>HF.out (q:Int) w2 hb);generalize fr l (q:Int)=fq at HT HFQ;generalize kn l (q:Int)=kk at HT f1;have hbd:((V.take k).flatMap fun z=>hw (kn l z) (fr l z) z).length≤2000:=by rw [List.length_take] at HTK; omega
      generalize ((V.take k).flatMap fun z=>hw (kn l z) (fr l z) z)=L at HG HT hbd;have hqi:(q:Int) < (l.length:Int):=by omega
      clear hat4 HN hat5 HTK hkl hq
      by_cases h1:kk=1
      · subst h1;obtain ⟨v2,w2,hrun,hg2,hb2⟩:=HG.out.new [⟨(q:Int),1⟩] (by simp; omega);have R2:=Lib.hid hrun;have G2:Hid (GotM w1.heap.size w2 v2 ((V.take (k+1)).flatMap fun z=>hw (kn l z) (fr l z) z)):=Lib.hid (by rw [HT.out]; exact hg2);have B2:=Lib.hid (HB.out.trans hb2);clear hrun hg2 hb2;go_wp2_with (at_builtin; refine Ap.wpList_append_run (by rfl) (.tmp 39) (.tmp 42) _ _ rfl _ _ rfl rfl v2 w2 R2.out ?_)
        go_roundw
        case rel=>exact ⟨k+1,by omega,by go_num,G2,B2⟩
        case measure=>simp [intOf]; omega
      · by_cases h6:kk=6
        · subst h6;obtain ⟨v2,w2,hrun,hg2,hb2⟩:=HG.out.new [⟨(q:Int),2⟩,⟨(q:Int),3⟩] (by simp; omega);have R2:=Lib.hid hrun;have G2:Hid (GotM w1.heap.size w2 v2 ((V.take (k+1)).flatMap fun z=>hw (kn l z) (fr l z) z)):=Lib.hid (by rw [HT.out]; exact hg2);have B2:=Lib.hid (HB.out.trans hb2);clear hrun hg2 hb2 h1;go_wp2_with (at_builtin; refine Ap.wpList_append_run (by rfl) (.tmp 46) (.tmp 51) _ _ rfl _ _ rfl rfl v2 w2 R2.out ?_)
          go_roundw
          case rel=>exact ⟨k+1,by omega,by go_num,G2,B2⟩
          case measure=>simp [intOf]; omega
        · have g1:(kk == 1)=false:=beq_eq_false_iff_ne.2 h1;have g6:(kk == 6)=false:=beq_eq_false_iff_ne.2 h6;have HH:Hid (hw kk fq (q:Int)=⟨(q:Int),4⟩::if fq then [⟨(q:Int),5⟩] else []):=Lib.hid (by unfold hw; rw [if_neg h1,if_neg h6]);obtain ⟨v2,w2,hrun,hg2,hb2⟩:=HG.out.new [⟨(q:Int),4⟩] (by simp; omega);have R2:=Lib.hid hrun;have G2:=Lib.hid hg2;have B2:=Lib.hid (HB.out.trans hb2);have D2:=Lib.hid (D1.out.trans (B2.out.mono D1.out.size));clear hrun hg2 hb2 h1 h6;go_wp2_with (at_builtin; refine Ap.wpList_append_run (by rfl) (.tmp 24) (.tmp 27) _ _ rfl _ _ rfl rfl v2 w2 R2.out ?_);refine (HFQ.out _ D2.out).mono ?_;rintro e w3 ⟨rfl,hb3⟩;have D3:=Lib.hid (D2.out.trans (hb3.mono D2.out.size));have G3:=Lib.hid (G2.out.below hb3);have B3:=Lib.hid (B2.out.trans (hb3.mono (Nat.le_trans B2.out.size (Nat.le_refl _))));clear hb3
          cases fq with
          | false=>
            have G4:Hid (GotM w1.heap.size w3 v2 ((V.take (k+1)).flatMap fun z=>hw (kn l z) (fr l z) z)):=Lib.hid (by rw [HT.out,HH.out]; exact G3.out);go_wp2_with fail
            go_roundw
            case rel=>exact ⟨k+1,by omega,by go_num,G4,B3⟩
            case measure=>simp [intOf]; omega
          | true=>
            obtain ⟨v4,w4,hrun,hg4,hb4⟩:=G3.out.new [⟨(q:Int),5⟩] (by simp; omega);have R4:=Lib.hid hrun;have G4:Hid (GotM w1.heap.size w4 v4 ((V.take (k+1)).flatMap fun z=>hw (kn l z) (fr l z) z)):=Lib.hid (by rw [HT.out,HH.out]; simpa using hg4);have B4:=Lib.hid (B3.out.trans hb4);clear hrun hg4 hb4;go_wp2_with (at_builtin; refine Ap.wpList_append_run (by rfl) (.tmp 32) (.tmp 35) _ _ rfl _ _ rfl rfl v4 w4 R4.out ?_)
            go_roundw
            case rel=>exact ⟨k+1,by omega,by go_num,G4,B4⟩
            case measure=>simp [intOf]; omega
    · have hfull:V.take k=V:=List.take_of_length_le (by omega);rw [hfull] at HG;go_wp2_with fail;go_ret;exact ⟨_,rfl,by rw [HEN.out]; exact HG.out.mvs,D1.out.trans (HB.out.mono D1.out.size)⟩
end Go.Proofs.YtaapnkoooofalaaGreat.Me

namespace Go.Proofs.YtaapnkoooofalaaGreat.Do
open Go Go.RowKit Rw So Se
set_option maxRecDepth 20000
structure Con:Prop where
  act:∀ (v:Value) (l:List Nd) (w:World),Nds w v l→l.length≤1000→Nms l→Calls Tryz.prog 39 #[v] w fun e w'=>∃ y,e=.returned y∧Ints w' y (av l)∧Below w.heap.size w w'
  doom:∀ (v:Value) (l:List Nd) (w:World),Nds w v l→l.length≤1000→Nms l→Calls Tryz.prog 150 #[v] w fun e w'=>e=.returned (.bool (dm l))∧Below w.heap.size w w'
  bes:∀ (v:Value) (l:List Nd) (z:Int) (w:World),Nds w v l→l.length≤1000→Nms l→Calls Tryz.prog 149 #[v,.int .i64 z] w fun e w'=>∃ y,e=.returned y∧Rws w' y (bs l z)∧Below w.heap.size w w'
  free:∀ (v:Value) (l:List Nd) (z:Int) (w:World),Nds w v l→l.length≤1000→Nms l→Calls Tryz.prog 101 #[v,.int .i64 z] w fun e w'=>e=.returned (.bool (fr l z))∧Below w.heap.size w w'
def fewB (l:List Nd):Bool:=decide (l.length≤100) && decide (depth l≤24)
theorem few_len {l:List Nd} (h:fewB l=true):l.length≤100:=by
  unfold fewB at h;rw [Bool.and_eq_true,decide_eq_true_eq] at h;exact h.1
end Go.Proofs.YtaapnkoooofalaaGreat.Do

namespace Go.Proofs.YtaapnkoooofalaaGreat.St
open Go Go.RowKit Rw So Se Do Sp Me
set_option maxRecDepth 20000
theorem leafR_any (k s:Int) (w:World):Calls Tryz.prog 32 #[.int .i64 k,.int .i64 s] w fun e w'=>∃ y,e=.returned y∧Nds w' y [⟨k,⟨#[]⟩,s⟩]∧Below w.heap.size w w':=by
  have N:=Lib.hid (Se.nds_new w [⟨k,⟨#[]⟩,s⟩] 36);have B:=Lib.hid (below1 w (.cells (cls [(⟨k,⟨#[]⟩,s⟩:Nd)]).toArray 36))
  go_enter Tryz.func32,Tryz.ntmps32
  go_wp2_with fail;go_ret;exact ⟨_,rfl,N.out,B.out⟩
theorem two_rw {w:World} {y:Value} {A B:List Nd} (h:Rws w y [A,B]):∃ b o c a0 a1,y=.slice (some ⟨b,o,none⟩) 2 c∧w.cell? ⟨b,o,none⟩=some a0∧w.cell? ⟨b,o+1,none⟩=some a1∧Nds w a0 A∧Nds w a1 B:=by
  obtain ⟨cs,h1,h2⟩:=h;exact two_rows0 h1 h2
set_option maxHeartbeats 1000000 in
theorem made_leaf (kk h sg:Int) (hh:(kk=1∧h=1∧sg=1)∨(kk=4∧h=4∧sg=1)∨(kk=4∧h=5∧sg=3)) (b off c:Nat) (L:List Nd) (w:World) (hat:At w b off L) (h0:0 < L.length) (hk:L[0].k=kk) (hc:L.length≤c) (hl:L.length≤1000) :
    Calls Tryz.prog 30 #[.slice (some ⟨b,off,none⟩) L.length c,.int .i64 h] w fun e w'=>∃ y,e=.returned y∧Nds w' y [⟨11,⟨#[]⟩,sg⟩]∧Below w.heap.size w w':=by
  have hv:=nds_drop hat hc 0 (Nat.zero_le _);rw [List.drop_zero,Nat.sub_zero,Nat.sub_zero,Nat.zero_mul,Nat.add_zero] at hv;have HK:=Lib.hid (kidsR_any _ L w hv (by omega));have e0:=(hat 0 h0).1;rw [hk,Nat.zero_mul,Nat.add_zero] at e0;have HC:Hid (∀ w',Below w.heap.size w w'→w'.cell? ⟨b,off,none⟩=some (.int .i64 kk)):=Lib.hid fun w' hb=>by rw [hb.cell (p:=⟨b,off,none⟩) (Ap.cell_lt e0)]; exact e0
  have HL:=Lib.hid (leafR_any 11 sg);have hl2:(0:Int) < L.length:=by omega
  clear hv e0 hat hk
  rcases hh with ⟨rfl,rfl,rfl⟩ | ⟨rfl,rfl,rfl⟩ | ⟨rfl,rfl,rfl⟩
  all_goals
    go_enter Tryz.func30,Tryz.ntmps30
    go_wp2_with fail;refine HK.out.mono ?_;rintro e w1 ⟨y,rfl,hr,hb1⟩;obtain ⟨_,⟨_,ay,cy,rfl,-⟩,-⟩:=id hr;have D1:=Lib.hid hb1;have e0:=HC.out _ hb1;clear hr hb1;go_wp2_with fail;refine (HL.out _).mono ?_;rintro e w2 ⟨y2,rfl,hn,hb2⟩;have D2:=Lib.hid (D1.out.trans (hb2.mono D1.out.size));have N2:=Lib.hid hn;clear hb2 hn;go_wp2_with fail;go_ret;exact ⟨_,rfl,N2.out,D2.out⟩
set_option maxHeartbeats 1000000 in
theorem made_alt (h:Int) (A B C:List Nd) (hh:(h=2∧C=A)∨(h=3∧C=B)) (b off c:Nat) (L:List Nd) (w:World) (hat:At w b off L) (hk:kids L=[A,B]) (hc:L.length≤c) (hl:L.length≤1000) :
    Calls Tryz.prog 30 #[.slice (some ⟨b,off,none⟩) L.length c,.int .i64 h] w fun e w'=>∃ y,e=.returned y∧Nds w' y C∧Below w.heap.size w w':=by
  have hv:=nds_drop hat hc 0 (Nat.zero_le _);rw [List.drop_zero,Nat.sub_zero,Nat.sub_zero,Nat.zero_mul,Nat.add_zero] at hv;have HK:=Lib.hid (kidsR_any _ L w hv (by omega));rw [hk] at HK;clear hv hat hk
  rcases hh with ⟨rfl,rfl⟩ | ⟨rfl,rfl⟩
  all_goals
    go_enter Tryz.func30,Tryz.ntmps30
    go_wp2_with fail;refine HK.out.mono ?_;rintro e w1 ⟨y,rfl,hr,hb1⟩;obtain ⟨bk,ok,ck,y0,y1,rfl,q0,q1,n0,n1⟩:=two_rw hr;have D1:=Lib.hid hb1;have N0:=Lib.hid n0;have N1:=Lib.hid n1;clear hr hb1 n0 n1;go_wp2_with fail;go_ret
    first
    | exact ⟨_,rfl,N0.out,D1.out⟩
    | exact ⟨_,rfl,N1.out,D1.out⟩
set_option maxHeartbeats 2000000 in
theorem made_go (A B:List Nd) (b off c:Nat) (L:List Nd) (w:World) (hat:At w b off L) (h0:0 < L.length) (hk0:L[0].k=10) (hk:kids L=[A,B]) (hA:A.length≤1000) (hB:B.length≤1000) (hc:L.length≤c) (hl:L.length≤1000) :
    Calls Tryz.prog 30 #[.slice (some ⟨b,off,none⟩) L.length c,.int .i64 4] w fun e w'=>∃ y,e=.returned y∧Nds w' y (nOf 12::(A++B))∧Below w.heap.size w w':=by
  have hv:=nds_drop hat hc 0 (Nat.zero_le _);rw [List.drop_zero,Nat.sub_zero,Nat.sub_zero,Nat.zero_mul,Nat.add_zero] at hv;have HK:=Lib.hid (kidsR_any _ L w hv (by omega));rw [hk] at HK;have e0:=(hat 0 h0).1;rw [hk0,Nat.zero_mul,Nat.add_zero] at e0;have HC:Hid (∀ w',Below w.heap.size w w'→w'.cell? ⟨b,off,none⟩=some (.int .i64 10)):=Lib.hid fun w' hb=>by rw [hb.cell (p:=⟨b,off,none⟩) (Ap.cell_lt e0)]; exact e0
  have HT:=Lib.hid (fun y0 y1 w1 (n0:Nds w1 y0 A) (n1:Nds w1 y1 B)=>twoR_any (nOf 12) y0 y1 A B w1 n0 n1 (by omega) (by omega));have hl2:(0:Int) < L.length:=by omega
  clear hv e0 hat hk hk0
  go_enter Tryz.func30,Tryz.ntmps30
  go_wp2_with fail;refine HK.out.mono ?_;rintro e w1 ⟨y,rfl,hr,hb1⟩;obtain ⟨bk,ok,ck,y0,y1,rfl,q0,q1,n0,n1⟩:=two_rw hr;have D1:=Lib.hid hb1;have e0:=HC.out _ hb1;have N0:=Lib.hid n0;have N1:=Lib.hid n1;clear hr hb1 n0 n1;go_wp2_with fail
  go_still_tail 7,(by kernel_rfl)
  change wpList _ _ _ _ _ w1.drew;go_wp2_with fail;refine (HT.out _ _ _ (N0.out.below (Below.refl _ _).drew) (N1.out.below (Below.refl _ _).drew)).mono ?_;rintro e w2 ⟨y2,rfl,hn,hb2⟩;have D2:=Lib.hid (D1.out.drew.trans (hb2.mono D1.out.size));have N2:=Lib.hid hn;clear hb2 hn;go_wp2_with fail;go_ret;exact ⟨_,rfl,N2.out,D2.out⟩
set_option maxHeartbeats 2000000 in
theorem made_stop (b off c:Nat) (L:List Nd) (w:World) (hat:At w b off L) (h0:0 < L.length) (hk0:L[0].k=10) (hc:L.length≤c) (hl:L.length≤1000) :
    Calls Tryz.prog 30 #[.slice (some ⟨b,off,none⟩) L.length c,.int .i64 5] w fun e w'=>∃ y,e=.returned y∧Nds w' y [nEnd 3,nOf 2]∧Below w.heap.size w w':=by
  have hv:=nds_drop hat hc 0 (Nat.zero_le _);rw [List.drop_zero,Nat.sub_zero,Nat.sub_zero,Nat.zero_mul,Nat.add_zero] at hv;have HK:=Lib.hid (kidsR_any _ L w hv (by omega));have e0:=(hat 0 h0).1;rw [hk0,Nat.zero_mul,Nat.add_zero] at e0;have HC:Hid (∀ w',Below w.heap.size w w'→w'.cell? ⟨b,off,none⟩=some (.int .i64 10)):=Lib.hid fun w' hb=>by rw [hb.cell (p:=⟨b,off,none⟩) (Ap.cell_lt e0)]; exact e0
  have HL:=Lib.hid (leafR_any 2 0);have HO:=Lib.hid (fun y w1 (n:Nds w1 y [nOf 2])=>oneR_any (nEnd 3) y [nOf 2] w1 n (by decide));have hl2:(0:Int) < L.length:=by omega
  clear hv e0 hat hk0
  go_enter Tryz.func30,Tryz.ntmps30
  go_wp2_with fail;refine HK.out.mono ?_;rintro e w1 ⟨y,rfl,hr,hb1⟩;obtain ⟨_,⟨_,ay,cy,rfl,-⟩,-⟩:=id hr;have D1:=Lib.hid hb1;have e0:=HC.out _ hb1;clear hr hb1;go_wp2_with fail;refine (HL.out _).mono ?_;rintro e w2 ⟨y2,rfl,hn,hb2⟩;have D2:=Lib.hid (D1.out.trans (hb2.mono D1.out.size));have N2:=Lib.hid hn;clear hb2 hn;go_wp2_with fail;refine (HO.out _ _ N2.out).mono ?_;rintro e w3 ⟨y3,rfl,hn,hb3⟩;have D3:=Lib.hid (D2.out.trans (hb3.mono D2.out.size));have N3:Hid (Nds w3 y3 [nEnd 3,nOf 2]):=Lib.hid (Ap.Rd.owned hn);clear hb3 hn;go_wp2_with fail;go_ret;exact ⟨_,rfl,N3.out,D3.out⟩
theorem madeR_any {s u:Tm} {h:Int} {o:Option ByteArray} (k:Made s h o u) (q:List Nd) (b off c:Nat) (L:List Nd) (w:World) (hL:L=flat s++q) (hat:At w b off L) (hc:L.length≤c) (hl:L.length≤1000) :
    Calls Tryz.prog 30 #[.slice (some ⟨b,off,none⟩) L.length c,.int .i64 h] w fun e w'=>∃ y,e=.returned y∧Nds w' y (flat u)∧Below w.heap.size w w':=by
  have two:∀ (n:Nd) (a b:Tm),ar n.k=2→kids ((n::(flat a++flat b))++q)=[flat a,flat b]:=fun n a b hk=>by
    have:=kidsA_two (n:=n) a b q hk;rw [List.cons_append,List.append_assoc];exact this
  have h0:0 < L.length:=by
    rw [hL,List.length_append,Se.flat_len];have:=sz_pos s;omega
  cases k with
  | act s=>exact made_leaf 1 1 1 (.inl ⟨rfl,rfl,rfl⟩) b off c L w hat h0 (by subst hL; rfl) hc hl
  | altl _ b'=>exact made_alt 2 (flat u) (flat b') _ (.inl ⟨rfl,rfl⟩) b off c L w hat (by rw [hL]; exact two (nOf 6) u b' rfl) hc hl
  | altr a _=>exact made_alt 3 (flat a) (flat u) _ (.inr ⟨rfl,rfl⟩) b off c L w hat (by rw [hL]; exact two (nOf 6) a u rfl) hc hl
  | yieldg=>exact made_leaf 4 4 1 (.inr (.inl ⟨rfl,rfl,rfl⟩)) b off c L w hat h0 (by subst hL; rfl) hc hl
  | yields=>exact made_leaf 4 5 3 (.inr (.inr ⟨rfl,rfl,rfl⟩)) b off c L w hat h0 (by subst hL; rfl) hc hl
  | pairg a b'=>
    have hlen:(flat (.pair a b')).length+q.length≤1000:=by rw [hL,List.length_append] at hl; exact hl
    have e:(flat (.pair a b')).length=(flat a).length+(flat b').length+1:=by
      show (nOf 10::(flat a++flat b')).length=_
      rw [List.length_cons,List.length_append]
    exact made_go (flat a) (flat b') b off c L w hat h0 (by subst hL; rfl) (by rw [hL]; exact two (nOf 10) a b' rfl) (by omega) (by omega) hc hl
  | pairs a b'=>exact made_stop b off c L w hat h0 (by subst hL; rfl) hc hl
end Go.Proofs.YtaapnkoooofalaaGreat.St
