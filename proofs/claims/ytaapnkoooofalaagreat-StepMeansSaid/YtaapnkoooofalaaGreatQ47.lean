/- Laws that the last text leans on. -/
import Derived.Test.YtaapnkoooofalaaGreatQ46

set_option maxRecDepth 20000
set_option maxHeartbeats 8000000
namespace Go.Proofs.YtaapnkoooofalaaGreat
namespace St
open Go Go.RowKit Rw YtaapnkoooofalaaGreat.So Se Tr Mn Do Sp Me
theorem x4q {w0 wr w7:World} {v x:Value} {o L:List Tr} {cs:List Value} (hown:wr.ownsRow w0.heap.size 68 2 v o.length cs) (hcs:Cl (ET (Apart (fun b=>w0.heap.size≤b) v) wr) 2 o cs) (h0:Below w0.heap.size w0 wr) (hb:Below wr.heap.size wr w7)
    (hx:TsO (fun b=>wr.heap.size≤b) w7 x L) (hlen:o.length+L.length≤1000000000000) :
    ∃ v' w',(Builtin.append_ #[37,37] 37 #[v,x]).run Tryz.prog w7=.ok v' w'∧
      ∃ ds,w'.ownsRow w0.heap.size 68 2 v' (o++L).length (cs++ds)∧Cl (ET (Apart (fun b=>w0.heap.size≤b) v') w') 2 (o++L) (cs++ds)∧Below w0.heap.size w0 w':=by
  obtain ⟨ds,hrd,hcl⟩:=hx;obtain ⟨i0,hi,hz,hs1,hb8⟩:=info_parts infoT;have hs:=h0.size;have hs2:=hb.size;have hold:=z2o hown;obtain ⟨v',w',h1,ho,hgr,hbl,hfr⟩:=Ap.z0t (P:=Tryz.prog) (ty:=37) Tryz.underlying37 hi hz hs1 hb8 (by rfl) (by omega) (Ap.own_below hown hb) (Nat.le_trans hs hs2) hrd.rd (Cl.cells _ ET.one hcl) (by unfold maxLen; omega) (by omega);refine ⟨v',w',h1,ds,by rw [List.length_append]; exact ho,?_,(h0.trans (hb.mono hs)).trans hbl⟩;refine Cl.append ET.len (hcl.imp (ET.map fun _ _ h=>z0v (Ap.RdO.imp h fun b _ hb1=>⟨by omega,fun e=>by have:=(hold b e).2; omega⟩) hgr hfr)) ((y6u hcs hb).imp (ET.map fun _ _ h=>z0v h hgr hfr))
theorem y2a {α β:Type} (f:α→List β) (M:Nat):∀ (l:List α),(∀ x∈l,(f x).length≤M)→∀ k,((l.take k).flatMap f).length≤k*M
  | [],_,k=>by simp
  | x::l,h,0=>by simp
  | x::l,h,k+1=>by
    have h1:=h x (List.mem_cons_self ..);have h2:=y2a f M l (fun y hy=>h y (List.mem_cons_of_mem _ hy)) k;rw [List.take_succ_cons,List.flatMap_cons,List.length_append,Nat.add_mul,Nat.one_mul];omega
theorem x8h (C:Con) (A:Alive) (v:Value) (l:List Nd) (w0:World) (hv:Nds w0 v l) (hm:Nms l) :
    Calls Tryz.prog 4 #[v] w0 fun e w'=>e=.returned (.bool true)∧Below w0.heap.size w0 w':=by
  have HF:=Lib.hid (few_any v l w0 hv);have HA:=Lib.hid A;unfold Alive at HA
  cases hf:Do.fewB l with
  | false=>
    rw [hf] at HF;obtain ⟨_,a,c,rfl,-⟩:=id hv;clear hv hm hf
    go_enter Tryz.func4,Tryz.ntmps4
    go_wp2_with fail;refine HF.out.mono ?_;rintro e w1 ⟨rfl,rfl⟩;go_wp2_with fail;refine (HA.out _).mono ?_;rintro e w2 ⟨rfl,hb2⟩;have D2:=Lib.hid hb2;clear hb2;go_wp2_with fail;go_ret;exact ⟨rfl,D2.out⟩
  | true=>
    rw [hf] at HF;have hl:=Do.few_len hf;have HO:=Lib.hid (Sx.y3c l false v w0 hv (by omega) hm);have HST:=Lib.hid (fun w1 (hb:Below w0.heap.size w0 w1)=>setP_any v l w1 (hv.below hb) (by omega) hm);have HZ:=Lib.hid (fun w1 (hb:Below w0.heap.size w0 w1)=>y4t v l w1 (hv.below hb) (by omega))
    cases ho:onB l false with
    | false=>
      rw [ho] at HO;obtain ⟨_,a,c,rfl,-⟩:=id hv;clear hv hm hf ho HST HZ
      go_enter Tryz.func4,Tryz.ntmps4
      go_wp2_with fail;refine HF.out.mono ?_;rintro e w1 ⟨rfl,rfl⟩;go_wp2_with fail;refine HO.out.mono ?_;rintro e w1 ⟨rfl,hb1⟩;have D1:=Lib.hid hb1;clear hb1;go_wp2_with fail;refine (HA.out _).mono ?_;rintro e w2 ⟨rfl,hb2⟩;have D2:=Lib.hid (D1.out.trans (hb2.mono D1.out.size));clear hb2;go_wp2_with fail;go_ret;exact ⟨rfl,D2.out⟩
    | true=>
      rw [ho] at HO
      cases hset:setB l with
      | false=>
        rw [hset] at HST;obtain ⟨_,a,c,rfl,-⟩:=id hv;clear hv hm hf ho HZ hset
        go_enter Tryz.func4,Tryz.ntmps4
        go_wp2_with fail;refine HF.out.mono ?_;rintro e w1 ⟨rfl,rfl⟩;go_wp2_with fail;refine HO.out.mono ?_;rintro e w1 ⟨rfl,hb1⟩;have D1:=Lib.hid hb1;clear hb1;go_wp2_with fail;refine (HST.out _ D1.out).mono ?_;rintro e w2 ⟨rfl,hb2⟩;have D2:=Lib.hid (D1.out.trans (hb2.mono D1.out.size));clear hb2;go_wp2_with fail;refine (HA.out _).mono ?_;rintro e w3 ⟨rfl,hb3⟩;have D3:=Lib.hid (D2.out.trans (hb3.mono D2.out.size));clear hb3;go_wp2_with fail;go_ret;exact ⟨rfl,D3.out⟩
      | true=>
        rw [hset] at HST
        cases hs:smallB l with
        | false=>
          rw [hs] at HZ;obtain ⟨_,a,c,rfl,-⟩:=id hv;clear hv hm hf ho hset hs
          go_enter Tryz.func4,Tryz.ntmps4
          go_wp2_with fail;refine HF.out.mono ?_;rintro e w1 ⟨rfl,rfl⟩;go_wp2_with fail;refine HO.out.mono ?_;rintro e w1 ⟨rfl,hb1⟩;have D1:=Lib.hid hb1;clear hb1;go_wp2_with fail;refine (HST.out _ D1.out).mono ?_;rintro e w2 ⟨rfl,hb2⟩;have D2:=Lib.hid (D1.out.trans (hb2.mono D1.out.size));clear hb2;go_wp2_with fail;refine (HZ.out _ D2.out).mono ?_;rintro e w3 ⟨rfl,hb3⟩;have D3:=Lib.hid (D2.out.trans (hb3.mono D2.out.size));clear hb3;go_wp2_with fail;refine (HA.out _).mono ?_;rintro e w4 ⟨rfl,hb4⟩;have D4:=Lib.hid (D3.out.trans (hb4.mono D3.out.size));clear hb4;go_wp2_with fail;go_ret;exact ⟨rfl,D4.out⟩
        | true=>
          rw [hs] at HZ;obtain ⟨t,hlt,hg,hn⟩:=z1c.1 hset;have h0:0<l.length:=by rw [← hlt,Se.flat_len]; exact z0l t
          rcases hv.form with ⟨hnil,_⟩ | ⟨b,o,c,hve,hc,hat⟩
          · rw [hnil] at h0; simp at h0
          have e0:=(hat 0 h0).1;rw [Nat.zero_mul,Nat.add_zero] at e0
          have hk0:kn l 0=l[0].k:=by
            unfold kn;rw [show ((0:Int)).toNat=0 from rfl,List.getElem?_eq_getElem h0]
          obtain ⟨kk,hkk⟩:∃ kk,l[0].k=kk:=⟨_,rfl⟩
          rw [hkk] at e0 hk0;have HC:=Lib.hid (fun (w1:World) (hb:Below w0.heap.size w0 w1)=>show w1.cell? ⟨b,o,none⟩=some (.int .i64 kk) by rw [hb.cell (p:=⟨b,o,none⟩) (Ap.z0a e0)]; exact e0);have hl2:(0:Int)<l.length:=by omega
          by_cases h11:kk=11
          · subst hve;subst h11;clear hv hm hf ho hset hs hat e0 hk0 hkk hlt hg hn
            go_enter Tryz.func4,Tryz.ntmps4
            go_wp2_with fail;refine HF.out.mono ?_;rintro e w1 ⟨rfl,rfl⟩;go_wp2_with fail;refine HO.out.mono ?_;rintro e w1 ⟨rfl,hb1⟩;have D1:=Lib.hid hb1;clear hb1;go_wp2_with fail;refine (HST.out _ D1.out).mono ?_;rintro e w2 ⟨rfl,hb2⟩;have D2:=Lib.hid (D1.out.trans (hb2.mono D1.out.size));clear hb2;go_wp2_with fail;refine (HZ.out _ D2.out).mono ?_;rintro e w3 ⟨rfl,hb3⟩;have D3:=Lib.hid (D2.out.trans (hb3.mono D2.out.size));have e3:=HC.out _ D3.out;clear hb3;go_wp2_with fail;refine (HA.out _).mono ?_;rintro e w4 ⟨rfl,hb4⟩;have D4:=Lib.hid (D3.out.trans (hb4.mono D3.out.size));clear hb4;go_wp2_with fail;go_ret;exact ⟨rfl,D4.out⟩
          · obtain ⟨q1,q2,q3⟩:=x8g hset hs ho (by rw [hk0]; exact h11);have hw:why l false=0:=by unfold why; rw [ho,hs]; rfl
            have HE:=Lib.hid (fun w1 (hb:Below w0.heap.size w0 w1)=>Me.y6c v l w1 (hv.below hb) (by omega) hm);have HN:=Lib.hid (fun m w1 (hb:Below w0.heap.size w0 w1)=>C.nx v l m w1 (hv.below hb) (by omega) hm);have HP:=Lib.hid (fun w1 (hb:Below w0.heap.size w0 w1)=>y1c v l w1 (hv.below hb) (by omega) hm);rw [hw] at HP;have HKD:=Lib.hid (fun m (h:m∈enR l)=>en_kind h);have HG:=Lib.hid q3;have HFW:=Lib.hid (x7w l);have HQ:=Lib.hid q1;have HGM:Hid (∀ m,gM l m=(MtR (nxL l m)).map (ahN (nxS l m))):=Lib.hid fun m=>rfl
            unfold TsPost at HP;generalize gM l=G at HG HQ HGM;generalize MtR l=L at HP HFW HQ;generalize enR l=V at HE HKD HG HQ q2;subst hve;have h11b:(kk==11)=false:=beq_eq_false_iff_ne.2 h11;clear hv hm hf ho hset hs hat e0 hk0 hkk hlt hg hn q1 q3 hw
            go_enter Tryz.func4,Tryz.ntmps4
            go_wp2_with fail;refine HF.out.mono ?_;rintro e w1 ⟨rfl,rfl⟩;go_wp2_with fail;refine HO.out.mono ?_;rintro e w1 ⟨rfl,hb1⟩;have D1:=Lib.hid hb1;clear hb1;go_wp2_with fail;refine (HST.out _ D1.out).mono ?_;rintro e w2 ⟨rfl,hb2⟩;have D2:=Lib.hid (D1.out.trans (hb2.mono D1.out.size));clear hb2;go_wp2_with fail;refine (HZ.out _ D2.out).mono ?_;rintro e w3 ⟨rfl,hb3⟩;have D3:=Lib.hid (D2.out.trans (hb3.mono D2.out.size));have e3:=HC.out _ D3.out;clear hb3;go_wp2_with fail;refine (HE.out _ D3.out).mono ?_;rintro e w4 ⟨y,rfl,hi,hb4⟩;have D4:=Lib.hid (D3.out.trans (hb4.mono D3.out.size));have FM:=Lib.hid hi.form;obtain ⟨_,ay,cy,rfl,-⟩:=id hi;clear hb4 hi HF HE HO HST HZ HC e3 D1 D2;go_wp2_with fail
            go_loopw [3,42] (fun u i wr=>∃ (k:Nat) (cs:List Value),k≤V.length∧i=.int .i64 k∧Hid (Below w4.heap.size w4 wr)∧Hid (wr.ownsRow w4.heap.size 68 2 u ((V.take k).flatMap G).length cs)∧Hid (Cl (ET (Apart (fun b=>w4.heap.size≤b) u) wr) 2 ((V.take k).flatMap G) cs)) (fun _ i _=>V.length-(intOf i).toNat)
            case atStart=>exact ⟨0,[],Nat.zero_le _,rfl,Lib.hid (Below.refl _ _),Lib.hid ⟨rfl,.inl ⟨rfl,rfl⟩⟩,Lib.hid rfl⟩
            case round=>
              obtain ⟨k,cs,hk,rfl,HB,HOW,HCL⟩:=hrel;have DR:=Lib.hid (D4.out.trans (HB.out.mono D4.out.size))
              by_cases hlt:k<V.length
              · rcases FM.out with ⟨h0',_⟩ | ⟨b4,o4,c4,e4,_,hat4⟩
                · rw [h0'] at hlt; simp at hlt
                injection e4 with e41 e42 e43;subst e41; subst e43;clear e42;obtain ⟨q4,q5⟩:=hat4 k hlt;have d4:wr.cell? ⟨b4,o4+k*2,none⟩=some (.int .i64 V[k].p):=by rw [HB.out.cell (Ap.z0a q4)]; exact q4
                have d5:wr.cell? ⟨b4,o4+k*2+1,none⟩=some (.int .i64 V[k].h):=by rw [HB.out.cell (Ap.z0a q5)]; exact q5
                obtain ⟨k1,k2,k3,k4,k5⟩:=HKD.out _ (List.getElem_mem hlt);obtain ⟨g1,g2,g3⟩:=HG.out _ (List.getElem_mem hlt);have HT:=Lib.hid (show (V.take (k+1)).flatMap G=(V.take k).flatMap G++G V[k] by rw [List.take_succ_eq_append_getElem hlt,List.flatMap_append]; simp);have HSUM:=Lib.hid (y2a G 12079595520 V (fun m hm=>(HG.out m hm).2.1) k);have HGE:=Lib.hid (HGM.out V[k]);obtain ⟨x,hx⟩:∃ x,V[k]=x:=⟨_,rfl⟩
                rw [hx] at d4 d5 k1 k2 k3 k4 k5 g1 g2 g3 HT HGE;have HN1:=Lib.hid (HN.out x);rw [k1] at HN1;have HP1:=Lib.hid (fun y w1 (h:Nds w1 y (nxL l x))=>y1c y (nxL l x) w1 h (by omega) k5);rw [g1] at HP1;have HFW1:=Lib.hid (x7w (nxL l x));generalize MtR (nxL l x)=Z1 at HP1 HGE HFW1;generalize nxL l x=Z at HN1 HP1 k4;have HAH:=Lib.hid (fun y w1 (h:Trs w1 y Z1)=>v1l (nxS l x) y Z1 w1 h HFW1.out.1 HFW1.out.2);rw [← HGE.out] at HAH;generalize nxS l x=s at HN1 HAH;unfold TsPost at HP1;generalize G x=gx at HT HAH g2 g3;generalize hacc:(V.take k).flatMap G=acc at HOW HCL HT HSUM
                have HKB:=Lib.hid (show acc.length+gx.length≤1000000000000 by
                  have:=HSUM.out;have:k*12079595520≤47*12079595520:=Nat.mul_le_mul_right _ (by omega);omega)
                obtain ⟨xp,xh⟩:=x;simp only at d4 d5;obtain ⟨D5,M5⟩:=Me.step0 xp xh DR.out;have HBa:=(z0f wr (.cells #[.int .i64 xp,.int .i64 xh] 24))
                clear hat4 q4 q5 k1 k2 k3 k4 k5 hx HN HKD FM g1 g2 g3 HG HGM HGE hacc HSUM HFW1;go_wp2_with fail;refine (HN1.out _ D5).mono ?_;rintro e w5 ⟨y5,rfl,hn5,hb5⟩;have D6:=Lib.hid (D5.trans (hb5.mono D5.size));have HB6:=Lib.hid (HBa.trans (hb5.mono HBa.size));have N5:=Lib.hid hn5;clear D5 M5 HBa hb5 hn5 d4 d5;go_wp2_with fail;refine (HP1.out _ _ N5.out).mono ?_;rintro e w6 ⟨a6,c6,rfl,h6,hb6⟩;have HB7:=Lib.hid (HB6.out.trans (hb6.mono HB6.out.size));have T6:=Lib.hid h6.trs;clear hb6 h6;go_wp2_with fail;refine (HAH.out _ _ T6.out).mono ?_;rintro e w7 ⟨v7,rfl,h7,hb7⟩;have HB8:=HB7.out.trans (hb7.mono HB7.out.size);obtain ⟨v8,w8,r8,ds,o8,k8,d8⟩:=x4q HOW.out HCL.out HB.out HB8 (h7.imp fun b _ h=>Nat.le_trans HB7.out.size h) HKB.out;obtain ⟨a7,c7,rfl,_⟩:=h7.val;have R8:=Lib.hid r8;have O8:=Lib.hid o8;have K8:=Lib.hid k8;have D8:=Lib.hid d8;clear r8 o8 k8 d8 h7 hb7 HB8;go_wp2_with (at_builtin; refine Ap.wpList_append_run (by rfl) (.tmp 64) (.tmp 67) _ _ rfl _ _ rfl rfl v8 w8 R8.out ?_)
                go_roundw
                case rel=>exact ⟨k+1,_,by omega,by go_num,D8,by rw [HT.out]; exact O8,by rw [HT.out]; exact K8⟩
                case measure=>simp [intOf]; omega
              · obtain rfl:k=V.length:=by omega
                have h1:=HOW.out;have h2:=HCL.out;rw [List.take_length] at h1 h2;have TA:=Lib.hid (TsO.trs ⟨cs,Ap.RdO.fresh h1,h2.imp (ET.map fun _ _ h=>Ap.RdO.imp h fun _ _ h=>h.1)⟩)
                have HFA:Hid (Few (V.flatMap G)):=Lib.hid ⟨by
                    have:=y2a G 12079595520 V (fun m hm=>(HG.out m hm).2.1) V.length;rw [List.take_length] at this;have:V.length*12079595520≤48*12079595520:=Nat.mul_le_mul_right _ q2;omega,fun t ht=>by
                    obtain ⟨m,hm,ht⟩:=List.mem_flatMap.1 ht;have:=(HG.out m hm).2.2 t ht;omega⟩
                have HSE:=Lib.hid (fun x w1 (h:Trs w1 x (V.flatMap G))=>set_any (V.flatMap G).length x (V.flatMap G) w1 (Nat.le_refl _) h HFA.out);rw [HQ.out] at HSE;have HSA:=Lib.hid (fun x y w1 (h1:Trs w1 x L) (h2:Trs w1 y L)=>same_any x y L L w1 h1 h2 HFW.out HFW.out);rw [show same L L=true from (same_iff L L).2 rfl] at HSA;have HOL:=Lib.hid (fun x w1 (h:Trs w1 x L)=>olds_any x L w1 h HFW.out.1);obtain ⟨_,au,cu,rfl,-⟩:=id (Ap.Rd.owned h1);generalize V.flatMap G=acc at *;have DE:=Lib.hid (D4.out.trans (HB.out.mono D4.out.size));generalize acc.length=na at *;clear h1 h2 HOW HCL HG HGM HKD HN FM HQ HFA HFW;go_wp2_with fail;refine (HP.out _ DE.out).mono ?_;rintro e w5 ⟨a5,c5,rfl,h5,hb5⟩;have D5:=Lib.hid (DE.out.trans (hb5.mono DE.out.size));have TA5:=Lib.hid (TA.out.below hb5);have T5:=Lib.hid h5.trs;generalize L.length=nl at *;clear hb5 h5;go_wp2_with fail;refine (HA.out _).mono ?_;rintro e w6 ⟨rfl,hb6⟩;have D6:=Lib.hid (D5.out.trans (hb6.mono D5.out.size));have TA6:=Lib.hid (TA5.out.below hb6);have T6:=Lib.hid (T5.out.below hb6);clear hb6;go_wp2_with fail;refine (HSE.out _ _ TA6.out).mono ?_;rintro e w7 ⟨v7,rfl,h7,hb7⟩;have D7:=Lib.hid (D6.out.trans (hb7.mono D6.out.size));have T7:=Lib.hid (T6.out.below hb7);have S7:=Lib.hid h7;obtain ⟨_,_,rfl,_⟩:=h7.val;clear hb7 h7;go_wp2_with fail;refine (HOL.out _ _ T7.out).mono ?_;rintro e w8 ⟨v8,rfl,h8,hb8⟩;have D8:=Lib.hid (D7.out.trans (hb8.mono D7.out.size));have S8:=Lib.hid (S7.out.below hb8);have T8:=Lib.hid h8;obtain ⟨_,_,rfl,_⟩:=h8.val;clear hb8 h8;go_wp2_with fail;refine (HSA.out _ _ _ S8.out T8.out).mono ?_;rintro e w9 ⟨rfl,hb9⟩;have D9:=Lib.hid (D8.out.trans (hb9.mono D8.out.size));clear hb9;go_wp2_with fail;go_ret;exact ⟨rfl,D9.out⟩
end St
end Go.Proofs.YtaapnkoooofalaaGreat
