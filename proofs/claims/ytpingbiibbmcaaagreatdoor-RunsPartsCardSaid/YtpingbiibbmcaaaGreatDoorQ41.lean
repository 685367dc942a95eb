/- Laws that the last text leans on. -/
import Derived.Test.YtpingbiibbmcaaaGreatDoorQ40
import Derived.Test.YtpingbiibbmcaaaGreatDoorQ36

set_option maxRecDepth 20000
set_option maxHeartbeats 8000000
namespace Go.Proofs.YtpingbiibbmcaaaGreatDoor
namespace Ru
open Go Go.RowKit Go.Maps Go.WideMaps Rw YtpingbiibbmcaaaGreatDoor.So Se Tr Mn Do Sp Me St
theorem y2m {A A0:List ByteArray} (h:A <:+ A0):A0.drop (A0.length-A.length)=A∧A.length≤A0.length:=⟨(List.suffix_iff_eq_drop.1 h).symm,h.length_le⟩
theorem SEnv.look {A0:List ByteArray} {en:Int} {w:World} {X K M E:Nat} (h:SEnv A0 en w X K M E) {l:List Nd} {A:List ByteArray} (he:errR l=0) (hs:(keyS l).size≤maxLen) (hA:A <:+ A0) (h0:A0.length≤1000) :
    ∃ u bb,(Instr.lookup 136 (.map (some M)) (askV (keyS l) A.length) true).run Tryz.prog w=.ok (.tuple #[u,.bool bb]) w∧(bb=true→u=.bool (hasT (MtR l) ⟨A,en⟩)):=by
  obtain ⟨hd,hle⟩:=y2m hA;obtain ⟨kl,hk⟩:=y6i (n:=A.length) hs (by omega)
  rcases h.m.look lawA Tryz.underlying136 (z:=.bool false) (by kernel_rfl) hk with h1 | ⟨v,⟨l',j,h2,h3,h4,h5⟩,h1⟩
  · exact ⟨_,false,h1,fun h=>by cases h⟩
  · refine ⟨v,true,h1,fun _=>?_⟩;unfold askV at h2;simp only [Value.agg.injEq,Array.mk.injEq,List.cons.injEq,Value.string.injEq,Value.int.injEq,and_true,true_and,Int.natCast_inj] at h2;obtain ⟨e1,e2⟩:=h2;subst e2;rw [h5,hd,x2l he h3 e1]
theorem SEnv.put {A0:List ByteArray} {en:Int} {w:World} {X K M E:Nat} (h:SEnv A0 en w X K M E) {l:List Nd} {A:List ByteArray} (he:errR l=0) (hs:(keyS l).size≤maxLen) (hA:A <:+ A0) (h0:A0.length≤1000) :
    ∃ w',(Instr.mapUpdate 136 (.map (some M)) (askV (keyS l) A.length) (.bool (hasT (MtR l) ⟨A,en⟩))).run Tryz.prog w=.ok () w'∧SEnv A0 en w' X K M E∧w.grownBy w' (some M):=by
  obtain ⟨hd,hle⟩:=y2m hA;obtain ⟨kl,hk⟩:=y6i (n:=A.length) hs (by omega);obtain ⟨w',h1,h2,h3⟩:=h.m.put lawA Tryz.underlying136 hk (val:=.bool (hasT (MtR l) ⟨A,en⟩)) ⟨l,A.length,rfl,he,hle,by rw [hd]⟩;have hk:=Ck.of_fine h.m h3;exact ⟨w',h1,⟨hk _ _ h.x,hk _ _ h.k,hk _ _ h.e,h2⟩,h3⟩
theorem x8h (A0:List ByteArray) (en:Int) (X K M E n:Nat) (h0:A0.length≤1000) (ih:SkC A0 en X K M E n):SkC A0 en X K M E (n+1):=by
  intro v a l A w hE hv ha hA he hn;obtain ⟨h24,hm,hne,hrg⟩:=y0l he;have IH:=Lib.hid ih;have hAl:=(y2m hA).2;have HB2:=Lib.hid (fun x y=>((Below.refl w.heap.size w).alloc (Nat.le_refl _) x).alloc (by simp) y);have HEn:=Lib.hid (fun w1 (hb:Below w.heap.size w w1)=>Se.z7e v l w1 (hv.below hb));rw [z8c.1] at HEn;have HKY:=Lib.hid (fun w1 (hb:Below w.heap.size w w1)=>y3u v l w1 (hv.below hb) (by omega) hrg hne);have HV:=Lib.hid hv;have HA:=Lib.hid ha;have HENV:=Lib.hid hE;obtain ⟨_,va,vc,rfl,_⟩:=id hv;obtain ⟨_,aa,ac,rfl,_⟩:=id ha;have ck:=hE.k;have cx:=hE.x;clear ih hv hE ha;unfold SkP
  cases hq:endB l with
  | true=>
    rw [hq,z8c.2 hq] at HEn
    have HM:=Lib.hid (show hasT (MtR l) ⟨A,en⟩=(decide (sgn l=en)&&decide (A.length=0)) by
      rw [end_mt he hq,Bool.eq_iff_iff,z1p,List.mem_singleton,Bool.and_eq_true,decide_eq_true_eq,decide_eq_true_eq,List.length_eq_zero_iff,Tr.mk.injEq];exact ⟨fun h=>⟨h.2.symm,h.1⟩,fun h=>⟨h.2,h.1.symm⟩⟩)
    generalize sgn l=s at *;generalize hasT (MtR l) ⟨A,en⟩=q at *;clear HKY hq;have hq2:q=(decide (s=en)&&decide ((A.length:Int)=0)):=by rw [HM.out]; congr 1; exact decide_eq_decide.2 (by omega)
    clear HM;obtain ⟨W2,hW2⟩:∃ W2,((w.alloc (.cells #[.slice va l.length vc] 22)).alloc (.cells #[.slice aa A.length ac] 26))=W2:=⟨_,rfl⟩
    have T2:=Lib.hid (HB2.out (.cells #[.slice va l.length vc] 22) (.cells #[.slice aa A.length ac] 26));have b5:W2.cell? ⟨w.heap.size,0,none⟩=some (.slice va l.length vc):=by rw [← hW2]; simp [go_sem]
    have b6:W2.cell? ⟨w.heap.size+1,0,none⟩=some (.slice aa A.length ac):=by rw [← hW2]; simp [go_sem]
    have hw2:w.heap.size≤W2.heap.size:=by rw [← hW2]; simp; omega
    rw [hW2] at T2;have HE2:=Lib.hid (HEn.out W2 T2.out);clear HEn
    go_enter Tryz.func106,Tryz.ntmps106
    go_wp2_with fail;refine HE2.out.mono ?_;rintro e w1 ⟨rfl,hb1⟩;have x1:=kc hb1 (kc T2.out cx);have y1:=kc hb1 b6;have D1:=Lib.hid (T2.out.trans (hb1.mono hw2));clear hb1 b6 cx hW2
    by_cases hs:s=en
    · rw [decide_eq_true hs,Bool.true_and] at hq2;go_wp2_with fail;go_ret;exact ⟨Rw.ret_bool hq2.symm,HENV.out.below D1.out,grown_of D1.out⟩
    · rw [decide_eq_false hs,Bool.false_and] at hq2;subst hq2;go_wp2_with fail;go_ret;exact ⟨rfl,HENV.out.below D1.out,grown_of D1.out⟩
  | false=>
    rw [hq] at HEn;generalize Se.overS l=s at *;obtain ⟨q,hq1⟩:∃ q,hasT (MtR l) ⟨A,en⟩=q:=⟨_,rfl⟩
    have HQ1:=Lib.hid hq1;rw [hq1];clear hq1;obtain ⟨W2,hW2⟩:∃ W2,((w.alloc (.cells #[.slice va l.length vc] 22)).alloc (.cells #[.slice aa A.length ac] 26))=W2:=⟨_,rfl⟩
    have T2:=Lib.hid (HB2.out (.cells #[.slice va l.length vc] 22) (.cells #[.slice aa A.length ac] 26));have b5:W2.cell? ⟨w.heap.size,0,none⟩=some (.slice va l.length vc):=by rw [← hW2]; simp [go_sem]
    have b6:W2.cell? ⟨w.heap.size+1,0,none⟩=some (.slice aa A.length ac):=by rw [← hW2]; simp [go_sem]
    have hw2:w.heap.size≤W2.heap.size:=by rw [← hW2]; simp; omega
    rw [hW2] at T2;have HE2:=Lib.hid (HEn.out W2 T2.out);clear HEn
    go_enter Tryz.func106,Tryz.ntmps106
    go_wp2_with fail;refine HE2.out.mono ?_;rintro e w1 ⟨rfl,hb1⟩;have D1:=Lib.hid (T2.out.trans (hb1.mono hw2));have p5:=kc hb1 b5;have p6:=kc hb1 b6;clear hb1 b5 b6 hW2 hw2 T2 HE2;have E1:=Lib.hid (HENV.out.below D1.out);have V1:=Lib.hid (HV.out.below D1.out);have A1:=Lib.hid (Ap.Rd.below HA.out D1.out);have HKS:=x2j he;have BR:=Lib.hid (Below.refl w1.heap.size w1);have BD:=Lib.hid (fun (w2:World) (o:Obj) (h1:Below w1.heap.size w1 w2)=>h1.alloc h1.size o);have HK1:=Lib.hid (fun w2 (hb:Below w1.heap.size w1 w2)=>y3u (.slice va l.length vc) l w2 (V1.out.below hb) (by omega) hrg hne);have CC:=Lib.hid (fun w2 (h1:Below w1.heap.size w1 w2)=>(⟨kc h1 p5,kc h1 p6⟩:w2.cell? ⟨w.heap.size,0,none⟩=some (.slice va l.length vc)∧w2.cell? ⟨w.heap.size+1,0,none⟩=some (.slice aa A.length ac)));clear HKY HB2 HENV HV ck cx
    go_upto_region 4 with fail
    go_cut [10] from 28 to 32 (fun t wx=>∃ B,t=.pointer (some ⟨B,0,none⟩)∧Hid (Below w1.heap.size w1 wx)∧wx.cell? ⟨B,0,none⟩=some (.string (keyS l))∧wx.cell? ⟨B,1,none⟩=some (.int .i64 A.length)∧w1.heap.size≤B)
    case first=>
      go_region_held3 (fun w'=>w'.cell? ⟨w.heap.size,0,none⟩=some (.slice va l.length vc)∧w'.cell? ⟨w.heap.size+1,0,none⟩=some (.slice aa A.length ac)) (first | exact CC.out _ (BR.out.drew) | exact CC.out _ (BD.out _ _ BR.out).drew | exact CC.out _ T2.out | exact CC.out _ (BD.out _ _ T2.out) | exact CC.out _ (Rx.z0f (Rx.z0f T2.out _ _ _ (Nat.le_refl _)) _ _ _ (Nat.le_refl _)) | exact CC.out _ (Rx.z0f (Rx.z0f (BD.out _ _ T2.out) _ _ _ T2.out.size) _ _ _ T2.out.size) | fail) (first
        | (go_at_call 81
           with_reducible refine (HK1.out _ BR.out.drew).mono ?_
           rintro e w2 ⟨rfl,hb2⟩;have T2:=Lib.hid (BR.out.drew.trans (hb2.mono BR.out.drew.size)))
        | (go_at_call 81
           with_reducible refine (HK1.out _ ((BD.out _ _ BR.out).drew)).mono ?_
           rintro e w2 ⟨rfl,hb2⟩;have T2:=Lib.hid ((BD.out _ _ BR.out).drew.trans (hb2.mono (BD.out _ _ BR.out).drew.size));have M0:=kc (p:=⟨w1.heap.size,0,none⟩) (u:=.string ⟨#[]⟩) hb2 (by simp [go_sem]);have M1:=kc (p:=⟨w1.heap.size,1,none⟩) (u:=.int .i64 0) hb2 (by simp [go_sem]);have M2:=kf (p:=⟨w1.heap.size,0,none⟩) hb2 (by simp [go_sem]) (by simp);have M3:=kf (p:=⟨w1.heap.size,1,none⟩) hb2 (by simp [go_sem]) (by simp))
        | fail)
      · go_wp2_with fail
        go_meet
        exact ⟨w2.heap.size,rfl,Lib.hid (BD.out _ _ T2.out),by simp [go_sem],by simp [go_sem],T2.out.size⟩
      · go_wp2_with fail
        go_meet
        obtain ⟨s0,s1⟩:=z8p (.string (keyS l)) (.int .i64 A.length) M0 M1;exact ⟨w1.heap.size,rfl,Lib.hid (Rx.z0f (Rx.z0f T2.out _ _ _ (Nat.le_refl _)) _ _ _ (Nat.le_refl _)),s0,s1,Nat.le_refl _⟩
    case rest=>
      obtain ⟨B,rfl,HX,s0,s1,hBge⟩:=hcut;have E3:=Lib.hid (E1.out.below HX.out);have k3:=E3.out.k;have V3:=Lib.hid (V1.out.below HX.out);have A3:=Lib.hid (Ap.Rd.below A1.out HX.out);obtain ⟨q5,q6⟩:=CC.out _ HX.out;have D3:=Lib.hid (D1.out.trans (HX.out.mono D1.out.size));obtain ⟨u,bb,hlk,hkn⟩:=E3.out.look he HKS hA h0;unfold askV at hlk;have HKN:=Lib.hid hkn;clear CC BD BR HK1 E1 V1 A1 p5 p6 hkn HX D1;rw [HQ1.out] at HKN
      cases bb with
      | true=>
        obtain rfl:=HKN.out rfl;go_wp2_with fail;go_ret;exact ⟨rfl,E3.out,grown_of D3.out⟩
      | false=>
        have hl24:l.length≤1000:=by omega
        clear HKN;have hmf:∀ (fn:Fn) (first cap:Array Value) (w:World),(Instr.makeFunc fn first cap).run Tryz.prog w=.ok (.func fn first cap) w:=fun _ _ _ _=>rfl
        go_wp2_with fail;refine (z2i (.slice va l.length vc) l wc V3.out hl24 hm).mono ?_;rintro e w4 ⟨ym,rfl,hmv,hb4⟩;have HMV:=Lib.hid hmv;have B4:=Lib.hid hb4;obtain ⟨_,am,cm,rfl,-⟩:=id hmv;clear hmv hb4;go_wp2_with fail;refine (y2e _ (enR l) w4 HMV.out (by have:=z7f l; omega)).mono ?_;rintro e w5 ⟨yE,L,rfl,hTwo,hL,hb5⟩;have B5:=Lib.hid (B4.out.trans (hb5.mono B4.out.size));have E5:=Lib.hid (E3.out.below B5.out);have HL:=Lib.hid hL;have HEN:=hTwo.enough
        have hLl:L.length≤1000000:=by
          rcases hTwo with rfl | ⟨k,hk,_,rfl⟩
          · have:=z7f l; omega
          · simp
        obtain ⟨_,aE,cE,rfl,_⟩:=id hL
        have HAS:Hid (L.any (okM l ⟨A,en⟩)=q):=Lib.hid (by
          rw [← HQ1.out,Bool.eq_iff_iff,z1p,List.any_eq_true,y0m HEN he hq])
        have r5:=kc B5.out q5;have r6:=kc B5.out q6;have t0:=kc B5.out s0;have t1:=kc B5.out s1;have V5:=Lib.hid (V3.out.below B5.out);have A5:=Lib.hid (Ap.Rd.below A3.out B5.out)
        have HI:=Lib.hid (hasM_any (fun w'=>SEnv A0 en w' X K M E∧w5.grownBy w' (some M)) (okM l ⟨A,en⟩) w.heap.size (w.heap.size+1) E L (.slice aE L.length cE) w5 ⟨E5.out,(Tu.refl M w5).by'⟩
          (fun w' h=>v0r HL.out (Ck.of_fine E5.out.m h.2))
          (fun m hmL w' h=>by
            have ck:=Ck.of_fine E5.out.m h.2;refine (test_any A0 en X K M E n w.heap.size (w.heap.size+1) IH.out _ _ l A m w' h.1 (ck _ _ r5) (ck _ _ r6) (y6d V5.out ck) (y8b A5.out ck) hA he (HEN.sub m hmL) hn).mono ?_;rintro e w'' ⟨he',h1,h2⟩;exact ⟨he',h1,z0j h.2 h2⟩) hLl)
        rw [HAS.out] at HI;clear q5 q6 s0 s1 k3 hlk hL hb5;go_wp2_with fail;refine HI.out.mono ?_;rintro e w6 ⟨rfl,hE6,hg6⟩;have ck6:=Ck.of_fine E5.out.m hg6;have z0:=ck6 _ _ t0;have z1:=ck6 _ _ t1;have k6:=hE6.k;obtain ⟨w7,hput,hE7,hg7⟩:=hE6.put he HKS hA h0;rw [HQ1.out] at hput;unfold askV at hput;have G7:=Lib.hid (z0j (grown_of (D3.out.trans (B5.out.mono D3.out.size))) (z0j hg6 hg7));have E7:=Lib.hid hE7;clear hE6 hg6 hg7 hE7 ck6 HI t0 t1 r5 r6;go_wp2_with fail;go_ret;exact ⟨rfl,E7.out,G7.out⟩
theorem x1m (A0:List ByteArray) (en:Int) (X K M E:Nat) (h0:A0.length≤1000):∀ n,SkC A0 en X K M E n
  | 0=>fun _ _ _ _ _ _ _ _ _ _ h=>absurd h (Nat.not_lt_zero _)
  | n+1=>x8h A0 en X K M E n h0 (x1m A0 en X K M E h0 n)
def skV (X K E:Nat):Value:=.func (.func 106) #[] #[.pointer (some ⟨X,0,none⟩),.pointer (some ⟨K,0,none⟩),.pointer (some ⟨E,0,none⟩)]
def SkM (A0:List ByteArray) (en:Int) (w:World) (e:Ending) (w':World):Prop:=∃ X K M E,e=.returned (skV X K E)∧SEnv A0 en w' X K M E∧Below w.heap.size w w'∧w.heap.size≤M
theorem x4n (A0:List ByteArray) (en:Int) (w:World):Calls Tryz.prog 56 #[.int .i64 en] w (SkM A0 en w):=by
  have hmm:=@run_makeMap Tryz.prog;have hmf:∀ (fn:Fn) (first cap:Array Value) (w:World),(Instr.makeFunc fn first cap).run Tryz.prog w=.ok (.func fn first cap) w:=fun _ _ _ _=>rfl
  unfold SkM skV
  go_enter Tryz.func56,Tryz.ntmps56
  go_wp2_with fail;go_ret;refine ⟨w.heap.size,w.heap.size+1+1,w.heap.size+1,w.heap.size+1+1+1,rfl,⟨?_,?_,?_,?_⟩,(((Below.refl _ _).alloc (Nat.le_refl _) _ |>.alloc (by simp) _).alloc (by simp; omega) _).alloc (by simp; omega) _,by omega⟩
  · exact kc (Rw.z0b _ _) (kc (Rw.z0b _ _) (kc (Rw.z0b _ _) (by simp [go_sem])))
  · exact kc (Rw.z0b _ _) (by simp [go_sem])
  · simp [go_sem]
  · have h1:(w.alloc (.cells #[.int .i64 en] 3)).heap.size=w.heap.size+1:=by simp
    have h2:=Mg.Fine.made (w.alloc (.cells #[.int .i64 en] 3)) Tryz.prog 138 (Sk A0 en);rw [h1] at h2;refine Mg.Fine.below (M:=w.heap.size+1+1) h2 ?_ (Nat.lt_succ_self _);exact ((Below.refl _ _).alloc (by simp) _).alloc (by simp) _
noncomputable def pickN (n:Nat) (l:List Nd) (t:Tr):Option (List Nat):=if hasT (MtR l) t then findN n l t else none
def PkP (A0:List ByteArray) (en:Int) (X K M E:Nat) (o:Option (List Nat)) (w:World) (e:Ending) (w':World):Prop:=∃ y,e=.returned (.tuple #[y,.bool o.isSome])∧Rw.Ints w' y ((o.getD []).map Int.ofNat)∧SEnv A0 en w' X K M E∧w.grownBy w' (some M)
def PkC (A0:List ByteArray) (en:Int) (X K M E n:Nat):Prop:=∀ (v a:Value) (l:List Nd) (A:List ByteArray) (w:World),SEnv A0 en w X K M E→Nds w v l→Tr.Strs w a A→A <:+ A0→errR l=0→cnt l wK<n→
  Calls Tryz.prog 55 #[skV X K E,v,a] w (PkP A0 en X K M E (pickN n l ⟨A,en⟩) w)
theorem ints_nil (w:World):Rw.Ints w (.slice none 0 0) []:=⟨rfl,none,0,rfl,Nat.le_refl _,fun _=>⟨rfl,rfl⟩,fun h=>absurd h (Nat.lt_irrefl _)⟩
theorem en_end {l:List Nd} (h:errR l=0) (he:endB l=true):enR l=[]:=by
  obtain ⟨u,rfl,hg,hn⟩:=z0k.1 (z1r.1 h).2.1;obtain ⟨s,rfl⟩:=y4f.1 he;refine List.eq_nil_iff_forall_not_mem.2 fun m hm=>?_
  obtain ⟨mo,h1,_⟩:=y0n hg hn hm
  cases h1
theorem x9p (A0:List ByteArray) (en:Int) (X K M E n:Nat) (h0:A0.length≤1000) (ih:PkC A0 en X K M E n):PkC A0 en X K M E (n+1):=by
  intro v a l A w hE hv ha hA he hn;obtain ⟨h24,hm,hne,hrg⟩:=y0l he;have IH:=Lib.hid ih;have HM:=Lib.hid (x1m A0 en X K M E h0 _ v a l A w hE hv ha hA he (Nat.lt_succ_self _));have HV:=Lib.hid hv;have HA:=Lib.hid ha;have HENV:=Lib.hid hE;unfold SkP at HM;obtain ⟨_,va,vc,rfl,_⟩:=id hv;obtain ⟨_,aa,ac,rfl,_⟩:=id ha;clear ih hv hE ha;unfold PkP
  cases hh:hasT (MtR l) ⟨A,en⟩ with
  | false=>
    have hp:pickN (n+1) l ⟨A,en⟩=none:=if_neg (by rw [hh]; decide);rw [hp];rw [hh] at HM
    go_enter Tryz.func55,Tryz.ntmps55
    unfold skV;go_wp2_with fail;refine HM.out.mono ?_;rintro e w1 ⟨rfl,hE1,hg1⟩;go_wp2_with fail;go_ret2;exact ⟨_,rfl,ints_nil _,hE1,hg1⟩
  | true=>
    have hp:pickN (n+1) l ⟨A,en⟩=findN (n+1) l ⟨A,en⟩:=if_pos hh;rw [hp];rw [hh] at HM;have hmem:=z1p.1 hh;obtain ⟨O,hO⟩:∃ O,findN (n+1) l ⟨A,en⟩=O:=⟨_,rfl⟩
    have HO:=Lib.hid hO;rw [hO];have hl24:l.length≤1000:=by omega
    clear hp hh hO
    go_enter Tryz.func55,Tryz.ntmps55
    unfold skV;go_wp2_with fail;refine HM.out.mono ?_;rintro e w1 ⟨rfl,hE1,hg1⟩;have ck1:=Ck.of_fine HENV.out.m hg1;have V1:=Lib.hid (y6d HV.out ck1);have A1:=Lib.hid (y8b HA.out ck1);have E1:=Lib.hid hE1;have G1:=Lib.hid hg1;clear hE1 hg1 ck1 HM HENV HV HA;go_wp2_with fail;refine (z2i (.slice va l.length vc) l w1 V1.out hl24 hm).mono ?_;rintro e w2 ⟨ym,rfl,hmv,hb2⟩;have HMV:=Lib.hid hmv;have B2:=Lib.hid hb2;obtain ⟨_,am,cm,rfl,-⟩:=id hmv;have E2:=Lib.hid (E1.out.below hb2);have V2:=Lib.hid (V1.out.below hb2);have A2:=Lib.hid (Ap.Rd.below A1.out hb2);have G2:=Lib.hid (z0j G1.out (grown_of hb2));have hel:=z7f l;clear hmv hb2 V1 A1 E1 G1 B2;go_wp2_with fail
    go_loopw [23] (fun i wr=>∃ k:Nat,k≤(enR l).length∧i=.int .i64 k∧Hid (SEnv A0 en wr X K M E)∧Hid (w2.grownBy wr (some M))∧Hid (∀ m∈(enR l).take k,okM l ⟨A,en⟩ m=false)) (fun i _=>(enR l).length-(intOf i).toNat)
    case atStart=>exact ⟨0,Nat.zero_le _,rfl,E2,Lib.hid (Tu.refl M w2).by',Lib.hid (fun m h=>by cases h)⟩
    case round=>
      obtain ⟨k,hk,rfl,HE,HG,HF⟩:=hrel
      by_cases hlt:k<(enR l).length
      · have ck2:=Ck.of_fine E2.out.m HG.out
        rcases (v0r HMV.out ck2).form with ⟨hz,_⟩ | ⟨eb,eo,ec,hev,_,hat⟩
        · rw [hz] at hlt; simp at hlt
        injection hev with x1 x2 x3;subst x1;subst x3;obtain ⟨m0,m1⟩:=hat k hlt;have hkl:(k:Int)<(enR l).length:=by omega
        have hmin:=List.getElem_mem hlt
        have hnend:endB l=false:=by
          cases hq:endB l with
          | false=>rfl
          | true=>rw [en_end he hq] at hlt; simp at hlt
        obtain ⟨mv,hmv⟩:∃ mv,(enR l)[k]=mv:=⟨_,rfl⟩
        have HFK:=Lib.hid (fun (h:okM l ⟨A,en⟩ mv=false) m (hm:m∈(enR l).take (k+1))=>show okM l ⟨A,en⟩ m=false by
          rw [List.take_succ_eq_append_getElem hlt,List.mem_append,List.mem_singleton,hmv] at hm
          rcases hm with hm | rfl
          · exact HF.out m hm
          · exact h)
        have HFI:=Lib.hid (fun (h:okM l ⟨A,en⟩ mv=true)=>show firstR l ⟨A,en⟩=some k by
          unfold firstR;rw [List.findIdx?_eq_some_iff_getElem];refine ⟨hlt,by rw [hmv]; exact h,fun j hj=>?_⟩;have:=HF.out (enR l)[j] (List.mem_take_iff_getElem.2 ⟨j,by omega,rfl⟩);rw [this]
          decide)
        have HAT:=Lib.hid (show (enR l)[k]?=some mv by rw [List.getElem?_eq_getElem hlt,hmv]);rw [hmv] at m0 m1 hmin;clear hmv hat
        have HOK:Hid (okM l ⟨A,en⟩ mv=match cutR (didR l mv) A with | none=>false | some r=>hasT (MtR (nxL l mv)) ⟨r,en⟩):=Lib.hid (by
          unfold okM;rw [y4i]
          cases cutR (didR l mv) A <;> rfl)
        have HFN:Hid (okM l ⟨A,en⟩ mv=true→∀ r,cutR (didR l mv) A=some r→O=(findN n (nxL l mv) ⟨r,en⟩).map (k::·)):=Lib.hid (fun h r hr=>by
          rw [← HO.out]
          conv=>lhs; unfold findN
          rw [if_neg (by rw [hnend]; decide),HFI.out h];simp only [HAT.out];rw [y4i,hr]
          rfl)
        have HNX:=Lib.hid (y3l he hmin);have hless:=(z3y hmin).1;have hdt:=y4h l mv;have V3:=Lib.hid (y6d V2.out ck2);have A3:=Lib.hid (y8b A2.out ck2);have HBY:=Lib.hid (fun o=>x3k (.slice va l.length vc) l mv (wr.alloc o) (V3.out.below (Rw.z0b wr o)) hl24 hm);unfold ByP at HBY;obtain ⟨mp,mh⟩:=mv;obtain ⟨L2,hL2⟩:∃ L2,nxL l ⟨mp,mh⟩=L2:=⟨_,rfl⟩
        obtain ⟨D2,hD2⟩:∃ D2,didR l ⟨mp,mh⟩=D2:=⟨_,rfl⟩
        obtain ⟨q,hq⟩:∃ q,okM l ⟨A,en⟩ ⟨mp,mh⟩=q:=⟨_,rfl⟩
        rw [hL2] at HBY HNX HOK hless HFN;rw [hD2] at HBY HOK hdt HFN;rw [hq] at HOK HFK HFN;clear hL2 hD2 hq ck2 HFI HAT;have k5:=A3.out;go_wp2_with fail;refine (HBY.out _).mono ?_;rintro e w3 ⟨y,d,rfl,hy,hd,hb3⟩;obtain ⟨_,ya,yc,rfl,_⟩:=id hy;obtain ⟨_,da,dc,rfl,_⟩:=id (Ap.RdO.rd hd);have T3:=Lib.hid ((Rw.z0b wr (.cells #[.int .i64 mp,.int .i64 mh] 71)).trans (hb3.mono (by simp)));have HR:=Lib.hid (fun o=>x1q ya L2.length yc (.slice da D2.length dc) (.slice aa A.length ac) D2 A (w3.alloc o) (Ap.Rd.below (z8x hd) (Rw.z0b w3 o)) (Ap.Rd.below (Ap.Rd.below A3.out T3.out) (Rw.z0b w3 o)) hdt);have HY:=Lib.hid hy;unfold RtP at HR;clear hb3 hd hy k5
        cases hc:cutR D2 A with
        | none=>
          rw [hc] at HR HOK;go_wp2_with fail;refine (HR.out _).mono ?_;rintro e w4 ⟨r,rfl,hr,hb4⟩;have T4:=Lib.hid (T3.out.trans (((Rw.z0b w3 (.cells #[.slice ya L2.length yc,.slice da D2.length dc] 75)).trans (hb4.mono (by simp))).mono T3.out.size));have E4:=Lib.hid (HE.out.below T4.out);have G4:=Lib.hid (z0j HG.out (grown_of T4.out));clear hb4 hr;go_wp2_with fail
          go_roundw
          case rel=>exact ⟨k+1,by omega,by go_num,E4,G4,Lib.hid (HFK.out HOK.out)⟩
          case measure=>simp [intOf]; omega
        | some r=>
          have hsr:=(v3k hc).trans hA;rw [hc] at HR HOK;go_wp2_with fail;refine (HR.out _).mono ?_;rintro e w4 ⟨rv,rfl,hr,hb4⟩;have T4:=Lib.hid (T3.out.trans (((Rw.z0b w3 (.cells #[.slice ya L2.length yc,.slice da D2.length dc] 75)).trans (hb4.mono (by simp))).mono T3.out.size));have E4:=Lib.hid (HE.out.below T4.out);have G4:=Lib.hid (z0j HG.out (grown_of T4.out));have z0:=kc (p:=⟨w3.heap.size,0,none⟩) (u:=.slice ya L2.length yc) hb4 (by simp [go_sem]);have HC:=Lib.hid (IH.out (.slice ya L2.length yc) rv L2 r w4 E4.out ((HY.out.below (Rw.z0b w3 (.cells #[.slice ya L2.length yc,.slice da D2.length dc] 75))).below hb4) hr hsr HNX.out (by omega));unfold PkP skV at HC
          cases hq:q with
          | false=>
            have hpn:pickN n L2 ⟨r,en⟩=none:=if_neg (by rw [← HOK.out,hq]; decide);rw [hpn] at HC;clear hb4 hr;go_wp2_with fail;refine HC.out.mono ?_;rintro e w5 ⟨yb,rfl,_,hE5,hg5⟩;have E5:=Lib.hid hE5;have G5:=Lib.hid (z0j G4.out hg5);clear hE5 hg5;go_wp2_with fail
            go_roundw
            case rel=>exact ⟨k+1,by omega,by go_num,E5,G5,Lib.hid (HFK.out hq)⟩
            case measure=>simp [intOf]; omega
          | true=>
            rw [hq] at HOK HFN;obtain ⟨ks,k1,_,_,_,k5⟩:=z7d n L2 ⟨r,en⟩ HNX.out (z1p.1 HOK.out.symm) (by omega);have hpn:pickN n L2 ⟨r,en⟩=some ks:=by rw [← k1]; exact if_pos HOK.out.symm
            have hOk:O=some (k::ks):=by rw [HFN.out rfl r hc,k1]; rfl
            have hkn:ks.length≤1000:=by have:=cnt_le l; omega
            subst hOk;rw [hpn] at HC;clear hb4 hr HFN HFK HO hpn k1;go_wp2_with fail;refine HC.out.mono ?_;rintro e w5 ⟨yb,rfl,hyb,hE5,hg5⟩;have E5:=Lib.hid hE5;have G5:=Lib.hid (z0j G4.out hg5);have hyb':Rw.Ints w5 yb (ks.map Int.ofNat):=hyb;obtain ⟨hyl,ay,cy,hyv,_⟩:=id hyb';rw [List.length_map] at hyv;subst hyv;obtain ⟨W7,hW7⟩:∃ W7,((w5.alloc (.cells #[.int .i64 k] 3)).alloc (.cells #[.slice (some ⟨w5.heap.size,0,none⟩) 1 1,.slice ay ks.length cy] 23))=W7:=⟨_,rfl⟩
            have T7:Below w5.heap.size w5 W7:=by rw [← hW7]; exact ((Below.refl _ _).alloc (Nat.le_refl _) _).alloc (by simp) _
            have y0:W7.cell? ⟨w5.heap.size+1,0,none⟩=some (.slice (some ⟨w5.heap.size,0,none⟩) 1 1):=by rw [← hW7]; simp [go_sem]
            have y1:W7.cell? ⟨w5.heap.size+1,1,none⟩=some (.slice ay ks.length cy):=by rw [← hW7]; simp [go_sem]
            have y2:W7.cell? ⟨w5.heap.size,0,none⟩=some (.int .i64 k):=by rw [← hW7]; exact kc (Rw.z0b _ _) (by simp [go_sem])
            have yr:Ap.Rd W7 1 (.slice (some ⟨w5.heap.size,0,none⟩) 1 1) 1 [.int .i64 k]:=⟨rfl,_,1,rfl,Nat.le_refl _,fun h=>(by cases h),fun _=>⟨w5.heap.size,0,rfl,fun j u hu=>by
              match j,hu with
              | 0,hu=>cases hu; exact y2⟩⟩
            have hyb2:Ap.Rd W7 1 (.slice ay ks.length cy) ks.length ((ks.map Int.ofNat).map (.int .i64)):=by
              have:=Rw.Ints.below hyb' T7;unfold Rw.Ints at this;rw [List.length_map] at this;exact this
            have HCC:=Lib.hid (x0l (w5.heap.size+1) _ _ 1 ks.length _ _ W7 y0 y1 yr hyb2 (fun u hu=>by simp only [List.mem_cons,List.mem_nil_iff,or_false] at hu; rw [hu]; rfl) (fun u hu=>by
              obtain ⟨x,_,rfl⟩:=List.mem_map.1 hu
              rfl) (by omega))
            have hsz7:=T7.size;have T7':=Lib.hid T7;clear hE5 hg5 hyb hyb' yr hyb2 y0 y1 y2 T7;go_wp2_with fail;refine HCC.out.mono ?_;rintro e w8 ⟨v8,rfl,hv8,hb8⟩;have T8:=Lib.hid (T7'.out.trans (hb8.mono hsz7));go_wp2_with fail;go_ret2;refine ⟨_,rfl,?_,E5.out.below T8.out,z0j G2.out (z0j G5.out (grown_of T8.out))⟩;have h9:=Ap.Rd.owned hv8
            show Rw.Ints w8 v8 ((k::ks).map Int.ofNat)
            unfold Rw.Ints;rw [List.map_cons,List.length_cons,List.length_map,Nat.add_comm];exact h9
      · go_wp2_with fail;go_ret2
        have hO:O=some []:=by
          rw [← HO.out];unfold findN
          cases hq:endB l with
          | true=>rfl
          | false=>
            obtain ⟨m,hm1,ho⟩:=(z5g he hq).1 hmem;exact absurd ho (by rw [HF.out m (by rw [List.take_of_length_le (by omega)]; exact hm1)]; decide)
        rw [hO];exact ⟨_,rfl,ints_nil _,HE.out,z0j G2.out HG.out⟩
theorem y5y (A0:List ByteArray) (en:Int) (X K M E:Nat) (h0:A0.length≤1000):∀ n,PkC A0 en X K M E n
  | 0=>fun _ _ _ _ _ _ _ _ _ _ h=>absurd h (Nat.not_lt_zero _)
  | n+1=>x9p A0 en X K M E n h0 (y5y A0 en X K M E h0 n)
theorem y0i (v a:Value) (l:List Nd) (t:Tr) (w:World) (hv:Nds w v l) (ha:Tr.Strs w a t.a) (hl:l.length≤1000) (hm:Nms l) (h0:t.a.length≤1000):Calls Tryz.prog 27 #[v,.agg #[a,.int .i64 t.e]] w (FiP (findR l t) w):=by
  obtain ⟨A,en⟩:=t;have B1:=Lib.hid (fun x=>Rw.z0b w (.cells #[x,.int .i64 en] 33));have HF:=Lib.hid (fun w1 (hb:Below w.heap.size w w1)=>y6y v l w1 (hv.below hb) hl hm);have HV:=Lib.hid hv;have HA:=Lib.hid ha;obtain ⟨_,va,vc,rfl,-⟩:=id hv;obtain ⟨_,aa,ac,rfl,-⟩:=id ha;unfold FiP;clear hv ha
  by_cases he:errR l=0
  · rw [he] at HF
    have hp:findR l ⟨A,en⟩=pickN (l.length+1) l ⟨A,en⟩:=by
      unfold findR pickN;rw [he]
      cases hasT (MtR l) ⟨A,en⟩ <;> rfl
    rw [hp];obtain ⟨O,hO⟩:∃ O,pickN (l.length+1) l ⟨A,en⟩=O:=⟨_,rfl⟩
    have HO:=Lib.hid hO;rw [hO];have h0':A.length≤1000:=h0;have k0:(w.alloc (.cells #[.slice aa A.length ac,.int .i64 en] 33)).cell? ⟨w.heap.size,0,none⟩=some (.slice aa A.length ac):=by simp [go_sem]
    have k1:(w.alloc (.cells #[.slice aa A.length ac,.int .i64 en] 33)).cell? ⟨w.heap.size,1,none⟩=some (.int .i64 en):=by simp [go_sem]
    have B1':=Lib.hid (B1.out (.slice aa A.length ac));clear hp hO
    go_enter Tryz.func27,Tryz.ntmps27
    go_wp2_with fail;refine (HF.out _ (B1.out _)).mono ?_;rintro e w1 ⟨rfl,hb1⟩;have j0:=kc hb1 k0;have j1:=kc hb1 k1;have D1:=Lib.hid (B1'.out.trans (hb1.mono (by simp)));have BR:=Lib.hid (Below.refl w1.heap.size w1);have CC:=Lib.hid (fun w2 (h1:Below w1.heap.size w1 w2)=>(⟨kc h1 j0,kc h1 j1⟩:w2.cell? ⟨w.heap.size,0,none⟩=some (.slice aa A.length ac)∧w2.cell? ⟨w.heap.size,1,none⟩=some (.int .i64 en)));have HS:=Lib.hid (fun w1=>x4n A en w1);unfold SkM at HS;clear hb1 k0 k1 B1 HF j0 j1;go_wp2_with fail
    go_region_held3 (fun w'=>w'.cell? ⟨w.heap.size,0,none⟩=some (.slice aa A.length ac)∧w'.cell? ⟨w.heap.size,1,none⟩=some (.int .i64 en)) (first | exact CC.out _ BR.out.drew | exact CC.out _ T2.out | exact JJ | fail) (first
      | (go_at_call 56
         refine (HS.out _).mono ?_;rintro e w2 ⟨X,K,M,E,rfl,hE,hb2,hM⟩;have T2:=Lib.hid (BR.out.drew.trans (hb2.mono BR.out.drew.size));have HM:=Lib.hid (show w1.heap.size≤M from hM);have HP:=Lib.hid (y5y A en X K M E h0' _ (.slice va l.length vc) (.slice aa A.length ac) l A w2 hE ((HV.out.below D1.out).below T2.out) (Ap.Rd.below (Ap.Rd.below HA.out D1.out) T2.out) (List.suffix_refl _) he (show cnt l wK<l.length+1 by have:=cnt_le l; omega));rw [HO.out] at HP;unfold PkP at HP;clear hE hb2 hM)
      | (go_at_call 55
         refine HP.out.mono ?_;rintro e w3 ⟨y,rfl,hy,hE3,hg3⟩;have T3:=Lib.hid (T2.out.grown hg3 T2.out.size (fun k hk=>by cases hk; exact HM.out));have JJ:=CC.out _ T3.out;have YY:=Lib.hid hy;clear hE3 hg3 hy)
      | fail)
    go_wp2_with fail;go_ret2;exact ⟨_,rfl,YY.out,D1.out.trans (T3.out.mono D1.out.size)⟩
  · have hp:findR l ⟨A,en⟩=none:=if_neg fun k=>he (by rw [Bool.and_eq_true] at k; exact beq_iff_eq.1 k.1)
    rw [hp];have hn:=he;generalize errR l=er at *;have B1':=Lib.hid (B1.out (.slice aa A.length ac))
    go_enter Tryz.func27,Tryz.ntmps27
    go_wp2_with fail;refine (HF.out _ (B1.out _)).mono ?_;rintro e w1 ⟨rfl,hb1⟩;have D1:=Lib.hid (B1'.out.trans (hb1.mono (by simp)));clear hb1;go_wp2_with fail;go_ret2;exact ⟨_,rfl,ints_nil _,D1.out⟩
end Ru
namespace Ru
open Go Go.RowKit Rw YtpingbiibbmcaaaGreatDoor.So Se Tr Mn Do Sp Me St
theorem newP (w:World):Nds (w.alloc (.cells #[.int .i64 7,.string ⟨#[]⟩,.int .i64 0,.int .i64 1,.string ⟨#[97]⟩,.int .i64 0,.int .i64 4,.string ⟨#[]⟩,.int .i64 0] 68)) (.slice (some ⟨w.heap.size,0,none⟩) 3 3) (flat tP):=Se.y3m w (flat tP) _
theorem newS (w:World):Nds (w.alloc (.cells #[.int .i64 2,.string ⟨#[]⟩,.int .i64 0] 68)) (.slice (some ⟨w.heap.size,0,none⟩) 1 1) [nOf 2]:=Se.y3m w [nOf 2] _
theorem y3x (w:World) (l:List Int) (ty:TypeId):Rw.Ints (w.alloc (.cells (l.map (Value.int .i64)).toArray ty)) (.slice (some ⟨w.heap.size,0,none⟩) l.length l.length) l:=by
  refine ⟨by simp,some ⟨w.heap.size,0,none⟩,l.length,rfl,Nat.le_refl _,fun h=>(by cases h),fun _=>⟨w.heap.size,0,rfl,fun j u hu=>?_⟩⟩;rw [Nat.zero_add,World.cell?_alloc_new]
  simpa using hu
theorem x2u {ps:List Int} (h:∀ z∈ps,0≤z∧z≤100):∀ z∈ps,In64 z:=fun z hz=>by
  have:=h z hz;unfold In64;omega
theorem newI3 (w:World) (a b c:Int):Rw.Ints (w.alloc (.cells #[.int .i64 a,.int .i64 b,.int .i64 c] 3)) (.slice (some ⟨w.heap.size,0,none⟩) 3 3) [a,b,c]:=y3x w [a,b,c] _
theorem newI2 (w:World) (a b:Int):Rw.Ints (w.alloc (.cells #[.int .i64 a,.int .i64 b] 3)) (.slice (some ⟨w.heap.size,0,none⟩) 2 2) [a,b]:=y3x w [a,b] _
theorem x5o (w:World) (a:Int):Rw.Ints (w.alloc (.cells #[.int .i64 a] 3)) (.slice (some ⟨w.heap.size,0,none⟩) 1 1) [a]:=y3x w [a] _
abbrev sA:List ByteArray:=[⟨#[97]⟩]
theorem al_pl (v pv:Value) (w:World) (h:Nds w v (flat tP)) (h2:Rw.Ints w pv [0,1,7]):Calls Tryz.prog 12 #[v,pv] w fun e w'=>∃ a1 c1 a2 c2,e=.returned (.agg #[.slice a1 1 c1,.slice a2 1 c2,.int .i64 2])∧Nds w' (.slice a1 1 c1) (flat tO)∧Tr.Strs w' (.slice a2 1 c2) sA∧Below w.heap.size w w':=by
  have:=z2g v pv (flat tP) [0,1,7] w h h2 (by decide) (z2c gP.1) (by decide) (x2u (by decide));rw [playP] at this;refine this.mono ?_;rintro e w' ⟨y,a,rfl,hy,ha,hb⟩;obtain ⟨_,a1,c1,rfl,_⟩:=id hy;obtain ⟨_,a2,c2,rfl,_⟩:=id ha;exact ⟨a1,c1,a2,c2,rfl,hy,ha,hb⟩
theorem al_pl0 (v pv:Value) (w:World) (h:Nds w v (flat tP)) (h2:Rw.Ints w pv [0]):Calls Tryz.prog 12 #[v,pv] w fun e w'=>∃ y a,e=.returned (.agg #[y,a,.int .i64 1])∧Nds w' y (flat tQ)∧Tr.Strs w' a sA∧Below w.heap.size w w':=by
  have:=z2g v pv (flat tP) [0] w h h2 (by decide) (z2c gP.1) (by decide) (x2u (by decide));rw [playP0] at this;exact this.mono fun e w' ⟨y,a,h1,h2,h3,h4⟩=>⟨y,a,h1,h2,h3,h4⟩
theorem al_tr (y a:Value) (w:World) (h:Nds w y (flat tO)) (h2:Tr.Strs w a sA):Calls Tryz.prog 14 #[.agg #[y,a,.int .i64 2]] w fun e w'=>∃ a2 c2,e=.returned (.tuple #[.agg #[.slice a2 1 c2,.int .i64 3],.bool true])∧Tr.Strs w' (.slice a2 1 c2) sA∧Below w.heap.size w w':=by
  refine (z4u y a ⟨flat tO,sA,2⟩ 2 w h h2 (by decide)).mono ?_;rintro e w' ⟨v,rfl,hv,hb⟩;have hv':Tr.Strs w' v sA:=hv;obtain ⟨_,a2,c2,rfl,_⟩:=id hv';exact ⟨a2,c2,rfl,hv',hb⟩
theorem al_tr0 (y a:Value) (w:World) (h:Nds w y (flat tQ)) (h2:Tr.Strs w a sA):Calls Tryz.prog 14 #[.agg #[y,a,.int .i64 1]] w fun e w'=>∃ a2 c2,e=.returned (.tuple #[.agg #[.slice a2 0 c2,.int .i64 0],.bool false])∧Below w.heap.size w w':=by
  refine (z4u y a ⟨flat tQ,sA,1⟩ 1 w h h2 (by decide)).mono ?_;rintro e w' ⟨v,rfl,hv,hb⟩;obtain ⟨_,a2,c2,rfl,_⟩:=id hv;exact ⟨a2,c2,rfl,hb⟩
theorem al_all (v:Value) (w:World) (h:Nds w v (flat tP)):Calls Tryz.prog 20 #[v] w fun e w'=>∃ a c,e=.returned (.tuple #[.slice a 2 c,.int .i64 0])∧Below w.heap.size w w':=by
  refine (y4u v (flat tP) w h (by decide) (z2c gP.1)).mono ?_;rintro e w' ⟨y,rfl,hy,hb⟩;rw [show allR (flat tP)=MtR (flat tP) from if_pos errP,mtP] at hy;obtain ⟨cs,⟨_,a,c,rfl,_⟩,_⟩:=hy;exact ⟨a,c,by rw [errP]; rfl,hb⟩
theorem al_none (v:Value) (w:World) (h:Nds w v [nOf 2]):Calls Tryz.prog 20 #[v] w fun e w'=>∃ a c,e=.returned (.tuple #[.slice a 0 c,.int .i64 1])∧Below w.heap.size w w':=by
  refine (y4u v [nOf 2] w h (by decide) (fun x hx=>by simp only [List.mem_singleton] at hx; subst hx; decide)).mono ?_;rintro e w' ⟨y,rfl,hy,hb⟩;rw [show allR [nOf 2]=[] from if_neg (by rw [errS]; decide)] at hy;obtain ⟨cs,⟨_,a,c,rfl,_⟩,_⟩:=hy;exact ⟨a,c,by rw [errS]; rfl,hb⟩
theorem al_fi (v a:Value) (w:World) (h:Nds w v (flat tP)) (h2:Tr.Strs w a sA):Calls Tryz.prog 27 #[v,.agg #[a,.int .i64 3]] w fun e w'=>∃ a2 c2,e=.returned (.tuple #[.slice a2 2 c2,.bool true])∧Rw.Ints w' (.slice a2 2 c2) [0,1]∧Below w.heap.size w w':=by
  have:=y0i v a (flat tP) ⟨sA,3⟩ w h h2 (by decide) (z2c gP.1) (by decide);rw [findP] at this;refine this.mono ?_;rintro e w' ⟨y,rfl,hy,hb⟩;obtain ⟨_,a2,c2,rfl,_⟩:=id hy;exact ⟨a2,c2,rfl,hy,hb⟩
structure KP (w:World) (bl b2 b3:Nat) (ta:Option Addr) (tc:Nat):Prop where
  l:Nds w (.slice (some ⟨bl,0,none⟩) 3 3) (flat tP)
  t0:w.cell? ⟨b3,0,none⟩=some (.slice ta 1 tc)
  t1:w.cell? ⟨b3,1,none⟩=some (.int .i64 3)
  n:w.cell? ⟨b2,2,none⟩=some (.int .i64 2)
  s:Tr.Strs w (.slice ta 1 tc) sA
theorem KP.below {w w':World} {bl b2 b3:Nat} {ta:Option Addr} {tc:Nat} (h:KP w bl b2 b3 ta tc) (hb:Below w.heap.size w w'):KP w' bl b2 b3 ta tc:=⟨h.l.below hb,kc hb h.t0,kc hb h.t1,kc hb h.n,Ap.Rd.below h.s hb⟩
theorem y0u:Alive:=by
  intro w hT;have HT:=Lib.hid hT;clear hT
  go_enter Tryz.func11,Tryz.ntmps11
  have N1:=newP w;have D1:=Rw.z0b w (.cells #[.int .i64 7,.string ⟨#[]⟩,.int .i64 0,.int .i64 1,.string ⟨#[97]⟩,.int .i64 0,.int .i64 4,.string ⟨#[]⟩,.int .i64 0] 68);obtain ⟨W1,hW1⟩:∃ W1,w.alloc (.cells #[.int .i64 7,.string ⟨#[]⟩,.int .i64 0,.int .i64 1,.string ⟨#[97]⟩,.int .i64 0,.int .i64 4,.string ⟨#[]⟩,.int .i64 0] 68)=W1:=⟨_,rfl⟩
  have I2:=newI3 W1 0 1 7;have D2:=Rw.z0b W1 (.cells #[.int .i64 0,.int .i64 1,.int .i64 7] 3);rw [hW1] at N1 D1;have N2:=N1.below D2;have T2:=Lib.hid (D1.trans (D2.mono D1.size));have L2:=Lib.hid N2;have C1:=Lib.hid (al_pl _ _ _ N2 I2);clear N1 N2 D1 D2 I2;go_wp2_with fail;refine C1.out.mono ?_;rintro e w1 ⟨ya,yc,aa,ac,rfl,hy,ha,hb⟩;have T3:=T2.out.trans (hb.mono T2.out.size);have L3:=L2.out.below hb;clear C1 T2 L2 hW1 hb;obtain ⟨W4,hW4⟩:∃ W4,w1.alloc (.cells #[.slice ya 1 yc,.slice aa 1 ac,.int .i64 2] 28)=W4:=⟨_,rfl⟩
  have hx:Below w1.heap.size w1 W4:=by rw [← hW4]; exact Rw.z0b w1 _
  have r0:W4.cell? ⟨w1.heap.size,0,none⟩=some (.slice ya 1 yc):=by rw [← hW4]; simp [go_sem]
  have r1:W4.cell? ⟨w1.heap.size,1,none⟩=some (.slice aa 1 ac):=by rw [← hW4]; simp [go_sem]
  have r2:W4.cell? ⟨w1.heap.size,2,none⟩=some (.int .i64 2):=by rw [← hW4]; simp [go_sem]
  have C2:=Lib.hid (al_tr _ _ W4 (hy.below hx) (Ap.Rd.below ha hx));have T4:=Lib.hid (T3.trans (hx.mono T3.size));have L4:=Lib.hid (L3.below hx);have X2:=Lib.hid r2;clear hy ha hx T3 L3;go_wp2_with fail;refine C2.out.mono ?_;rintro e w5 ⟨ta,tc,rfl,ht,hb⟩;have T5:=T4.out.trans (hb.mono T4.out.size);have L5:=L4.out.below hb;have s2:=kc hb X2.out;clear C2 T4 L4 hW4 hb r0 r1 r2 X2;obtain ⟨W6,hW6⟩:∃ W6,w5.alloc (.cells #[.slice ta 1 tc,.int .i64 3] 33)=W6:=⟨_,rfl⟩
  have hx:Below w5.heap.size w5 W6:=by rw [← hW6]; exact Rw.z0b w5 _
  have r0:W6.cell? ⟨w5.heap.size,0,none⟩=some (.slice ta 1 tc):=by rw [← hW6]; simp [go_sem]
  have r1:W6.cell? ⟨w5.heap.size,1,none⟩=some (.int .i64 3):=by rw [← hW6]; simp [go_sem]
  have r2:=kc hx s2;have T6:=T5.trans (hx.mono T5.size);have L6:=L5.below hx;have S6:=Ap.Rd.below ht hx;have I7:=x5o W6 0;have hx7:Below W6.heap.size W6 (W6.alloc (.cells #[.int .i64 0] 3)):=Rw.z0b W6 _;have L7:=L6.below hx7;have C3:=Lib.hid (al_pl0 _ _ _ L7 I7);have T7:=Lib.hid (T6.trans (hx7.mono T6.size));have KK:=Lib.hid (⟨L7,kc hx7 r0,kc hx7 r1,kc hx7 r2,Ap.Rd.below S6 hx7⟩:KP (W6.alloc (.cells #[.int .i64 0] 3)) w.heap.size w1.heap.size w5.heap.size ta tc);clear hx hx7 ht T5 L5 s2 T6 L6 S6 I7 L7 r0 r1 r2;go_wp2_with fail;refine C3.out.mono ?_;rintro e w7 ⟨y7,a7,rfl,hy,ha,hb⟩;have T8:=Lib.hid (T7.out.trans (hb.mono T7.out.size));have K8:=Lib.hid (KK.out.below hb);have C4:=Lib.hid (al_tr0 _ _ w7 hy ha);clear T7 KK C3 hb hW6;obtain ⟨_,ya7,yc7,rfl,_⟩:=id hy;obtain ⟨_,aa7,ac7,rfl,_⟩:=id ha;clear hy ha;go_wp2_with fail;refine C4.out.mono ?_;rintro e w8 ⟨a8,c8,rfl,hb⟩;have T9:=Lib.hid (T8.out.trans (hb.mono T8.out.size));have K9:=Lib.hid (K8.out.below hb);clear T8 K8 C4 hb;have hx:=Rw.z0b w8 (.cells #[.slice a8 0 c8,.int .i64 0] 33);have TA:=Lib.hid (T9.out.trans (hx.mono T9.out.size));have KA:=Lib.hid (K9.out.below hx);have C5:=Lib.hid (al_all _ _ KA.out.l);clear T9 K9 hx;go_wp2_with fail;refine C5.out.mono ?_;rintro e w9 ⟨a9,c9,rfl,hb⟩;have TB:=Lib.hid (TA.out.trans (hb.mono TA.out.size));have KB:=Lib.hid (KA.out.below hb);clear TA KA C5 hb;have hx:=Rw.z0b w9 (.cells #[.string ⟨#[97]⟩] 9);have TC:=Lib.hid (TB.out.trans (hx.mono TB.out.size));have KC:=Lib.hid (KB.out.below hx);have C6:=Lib.hid (al_fi _ _ _ KC.out.l (strs_new w9 ⟨#[97]⟩ 9));clear TB KB hx;go_wp2_with fail;refine C6.out.mono ?_;rintro e w10 ⟨af,cf,rfl,hf,hb⟩;have TD:=Lib.hid (TC.out.trans (hb.mono TC.out.size));have KD:=Lib.hid (KC.out.below hb);clear TC KC C6 hb;have hx:=Rw.z0b w10 (.cells #[.int .i64 2,.string ⟨#[]⟩,.int .i64 0] 68);have TE:=Lib.hid (TD.out.trans (hx.mono TD.out.size));have KE:=Lib.hid (KD.out.below hx);have FE:=Lib.hid (Rw.Ints.below hf hx);have C7:=Lib.hid (al_none _ _ (newS w10));clear TD KD hx hf;go_wp2_with fail;refine C7.out.mono ?_;rintro e w11 ⟨an,cn,rfl,hb⟩;have TF:=Lib.hid (TE.out.trans (hb.mono TE.out.size));have KF:=Lib.hid (KE.out.below hb);have FF:=Lib.hid (Rw.Ints.below FE.out hb);have C8:=Lib.hid (x7y (.slice ta 1 tc) ⟨sA,3⟩ w11 (Tr.Tab.below HT.out TF.out) KF.out.s (by decide) (by decide));rw [txtA] at C8;have t0:=KF.out.t0;have t1:=KF.out.t1;clear TE KE FE C7 hb;go_wp2_with fail;refine C8.out.mono ?_;rintro e w12 ⟨rfl,hb⟩;have TG:=Lib.hid (TF.out.trans (hb.mono TF.out.size));have n2:=kc hb KF.out.n;have FG:=Rw.Ints.below FF.out hb;have hx:=Rw.z0b w12 (.cells #[.int .i64 0,.int .i64 1] 3);have C9:=Lib.hid (v1r _ _ [0,1] [0,1] _ (Rw.Ints.below FG hx) (newI2 w12 0 1) (by decide));rw [show sameJ [0,1] [0,1]=true from rfl] at C9;have TH:=Lib.hid (TG.out.trans (hx.mono TG.out.size));clear TF KF FF C8 hb hx FG TG t0 t1;go_wp2_with fail;refine C9.out.mono ?_;rintro e w13 ⟨rfl,hb⟩;have TI:=Lib.hid (TH.out.trans (hb.mono TH.out.size));clear TH C9 hb;go_wp2_with fail;go_ret;exact ⟨rfl,TI.out⟩
def Law (w:World) (e:Ending) (w':World):Prop:=e=.returned (.bool true)∧Below w.heap.size w w'
theorem lit_len {l:List Nd} (h:litB l=true):l.length≤100:=few_len (lit_few h)
theorem few_nil:Few ([]:List Tr):=⟨by simp,fun _ h=>by cases h⟩
theorem few_mtr (l:List Nd):Few (MtR l):=by
  unfold MtR
  by_cases h:why l false=0
  · rw [if_pos h];obtain ⟨h1,h2⟩:=z8g h;exact ⟨by omega,fun t ht=>by have:=h2 t ht; omega⟩
  · rw [if_neg h]; exact few_nil
end Ru
end Go.Proofs.YtpingbiibbmcaaaGreatDoor
