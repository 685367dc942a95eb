/- Laws that the last text leans on. -/
import Derived.Test.YtaapnkoooofalaaGreatQ21
import Derived.Test.YtaapnkoooofalaaGreatQ22
import Derived.Deep.DeepCutAuto

set_option maxRecDepth 20000
set_option maxHeartbeats 4000000
namespace Go.Proofs.YtaapnkoooofalaaGreat
namespace Mn
open Go Go.RowKit Tr
theorem infoP1:(Tryz.prog.info? 97).map (fun i=>(i.zero,i.size,i.bytes))=some (some (.agg #[.slice none 0 0,.int .i64 0,.slice none 0 0,.int .i64 0]),4,64):=by kernel_rfl
theorem appT {w:World} {base n m:Nat} {v x:Value} {cs ds:List Value} (hown:w.ownsRow base 67 2 v n cs) (hbase:base≤w.heap.size) (hx:Ap.Rd w 2 x m ds) (h1:∀ u∈ds,u.oneCell'=true) (hlen:n+m≤2000000000000) :
    ∃ v' w',(Builtin.append_ #[40,40] 40 #[v,x]).run Tryz.prog w=.ok v' w'∧w'.ownsRow base 67 2 v' (n+m) (cs++ds)∧w.grownBy w' v.ownBlock∧Below base w w'∧Ap.Fresh w v v':=by
  obtain ⟨i0,hi,hz,hs1,hb8⟩:=info_parts y5r;exact Ap.z0t (P:=Tryz.prog) (ty:=40) Tryz.underlying40 hi hz hs1 hb8 (by rfl) (by omega) hown hbase hx h1 (by unfold maxLen; omega) (by omega)
theorem appP {w:World} {base n m:Nat} {v x:Value} {cs ds:List Value} (hown:w.ownsRow base 97 4 v n cs) (hbase:base≤w.heap.size) (hx:Ap.Rd w 4 x m ds) (h1:∀ u∈ds,u.oneCell'=true) (hlen:n+m≤2000000000000) :
    ∃ v' w',(Builtin.append_ #[98,98] 98 #[v,x]).run Tryz.prog w=.ok v' w'∧w'.ownsRow base 97 4 v' (n+m) (cs++ds)∧w.grownBy w' v.ownBlock∧Below base w w'∧Ap.Fresh w v v':=by
  obtain ⟨i0,hi,hz,hs1,hb8⟩:=info_parts infoP1;exact Ap.z0t (P:=Tryz.prog) (ty:=98) Tryz.underlying98 hi hz hs1 hb8 (by rfl) (by omega) hown hbase hx h1 (by unfold maxLen; omega) (by omega)
theorem z4y {α β:Type} (f:α→List β) (l:List α) (k:Nat) (h:k<l.length):(l.take (k+1)).flatMap f=(l.take k).flatMap f++f l[k]:=by
  rw [List.take_succ_eq_append_getElem h,List.flatMap_append];simp
theorem flat_take {α β:Type} (f:α→List β) (l:List α) (k:Nat):((l.take k).flatMap f).length≤(l.flatMap f).length:=by
  have e:l.flatMap f=(l.take k).flatMap f++(l.drop k).flatMap f:=by rw [← List.flatMap_append,List.take_append_drop]
  rw [e,List.length_append];omega
def Apart (ok:Nat→Prop) (v:Value) (b:Nat):Prop:=ok b∧some b≠v.ownBlock
theorem z0v {ok:Nat→Prop} {w w':World} {v v' x:Value} {l:List ByteArray} (h:StrsO (Apart ok v) w x l) (hg:w.grownBy w' v.ownBlock) (hf:Ap.Fresh w v v'):StrsO (Apart ok v') w' x l:=Ap.RdO.grow h hg hf
theorem z2o {w:World} {base size n:Nat} {e:TypeId} {v:Value} {xs:List Value} (h:w.ownsRow base e size v n xs):∀ b,some b=v.ownBlock→base≤b∧b<w.heap.size:=fun b hb=>by
  refine ⟨?_,Ap.z6g h b hb.symm⟩;obtain ⟨_,⟨rfl,_⟩ | ⟨g,cap,cur,rfl,hg,_⟩⟩:=h
  · cases hb
  · cases hb
    exact hg
theorem y6d (fn:Nat) (caps:Array Value) (eg:∀ args w,(callFunc fn args).run Tryz.prog w=.ok (.enter fn args) w) (ok:Nat→Prop) (x:Value) (l:List Tr) (F:Tr→List Tr) (w:World) (hx:TsO ok w x l)
    (hF:∀ wr,Below w.heap.size w wr→∀ t∈l,∀ a,StrsO (fun b=>ok b∧b<w.heap.size) wr a t.a→Calls Tryz.prog fn (#[.agg #[a,.int .i64 t.e]]++caps) wr (OutT (fun b=>ok b∧b<w.heap.size) (F t) wr))
    (hl:l.length≤1000000000000) (hlen:(l.flatMap F).length≤1000000000000) :
    Calls Tryz.prog 115 #[x,.func (.func fn) #[] caps] w (OutT ok (l.flatMap F) w):=by
  obtain ⟨ax,cx,rfl,_,hval⟩:=hx.val;have HV:=Lib.hid hval;have HF:=Lib.hid hF;have HT:=Lib.hid (flat_take F l);have HS:=Lib.hid (z4y F l);obtain ⟨L,hL⟩:∃ L,l.flatMap F=L:=⟨_,rfl⟩
  rw [hL] at HT hlen ⊢;unfold OutT;have HL:=Lib.hid hL;clear hval hF hx hL
  go_enter Tryz.func115,Tryz.ntmps115
  go_wp2_with fail
  go_loopw [5,10] (fun v i wr=>∃ (k:Nat) (cs:List Value),k≤l.length∧i=.int .i64 k∧Below w.heap.size w wr∧wr.ownsRow w.heap.size 67 2 v ((l.take k).flatMap F).length cs∧Cl (ET (Apart (fun b=>ok b∨w.heap.size≤b) v) wr) 2 ((l.take k).flatMap F) cs) (fun _ i _=>l.length-(intOf i).toNat)
  case atStart=>exact ⟨0,[],Nat.zero_le _,rfl,Below.refl _ _,⟨rfl,.inl ⟨rfl,rfl⟩⟩,rfl⟩
  case round=>
    obtain ⟨k,cs,hk,rfl,hb,hown,hcs⟩:=hrel;have WB:=Lib.hid hb;have WO:=Lib.hid hown;have WC:=Lib.hid hcs;clear hb hown hcs
    by_cases hlt:k<l.length
    · obtain ⟨b1,o1,a,rfl,hok,e1,e2,hs⟩:=HV.out k hlt;have c1:wr.cell? ⟨b1,o1+k*2,none⟩=some a:=by rw [WB.out.cell (Ap.z0a e1)]; exact e1
      have c2:wr.cell? ⟨b1,o1+k*2+1,none⟩=some (.int .i64 l[k].e):=by rw [WB.out.cell (Ap.z0a e2)]; exact e2
      have HA:=Lib.hid hs;have TM:=Lib.hid (List.getElem_mem hlt);have SN:=Lib.hid (HS.out k hlt);have TK:=HT.out (k+1);rw [SN.out,List.length_append] at TK;generalize l[k]=t at *;obtain ⟨_,a',c',rfl,_⟩:=HA.out;go_wp2_with fail;refine (HF.out _ ?b1 t TM.out _ (Ap.RdO.below (Ap.RdO.imp HA.out fun b hlt ho=>⟨ho,hlt⟩) ?b2)).mono ?c1
      case b1=>exact WB.out.alloc WB.out.size _
      case b2=>exact WB.out.alloc WB.out.size _
      rintro e w1 ⟨a1,c1',rfl,ht1,hb1⟩;have B0:Below wr.heap.size wr w1:=((Below.refl _ _).alloc (Nat.le_refl _) _).trans (hb1.mono (by simp));obtain ⟨ds,hr,hc⟩:=ht1;have hO1:=Ap.own_below WO.out B0;obtain ⟨v2,w2,hrun,ho2,hg2,hb2,hf2⟩:=appT hO1 (Nat.le_trans WB.out.size B0.size) (Ap.RdO.rd hr) (Cl.cells _ ET.one hc) (by omega);have RUN:=Lib.hid hrun;have O2:=Lib.hid ho2;have B2:=Lib.hid ((WB.out.trans (B0.mono WB.out.size)).trans hb2)
      have C2:Hid (Cl (ET (Apart (fun b=>ok b∨w.heap.size≤b) v2) w2) 2 ((l.take (k+1)).flatMap F) (cs++ds)):=Lib.hid (by
        rw [SN.out];refine Cl.append ET.len ?_ ?_
        · refine Cl.imp (ET.map fun x m hx=>z0v (Ap.RdO.imp hx fun b hlt ho=>?_) hg2 hf2) hc
          rcases ho with ho | ho
          · exact ⟨.inl ho.1,fun e=>by have:=z2o WO.out b e; omega⟩
          · have ho':wr.heap.size+1≤b:=by simpa using ho
            have:=WB.out.size;exact ⟨.inr (by omega),fun e=>by have:=z2o WO.out b e; omega⟩
        · exact Cl.imp (ET.map fun x m hx=>z0v (z0e hx B0) hg2 hf2) WC.out)
      clear hrun ho2 hg2 hb2 hf2 hc hb1 hO1 B0;go_wp2_with (at_builtin; refine Ap.wpList_append_run (by rfl) _ _ _ _ rfl _ _ rfl rfl v2 w2 RUN.out ?_)
      go_roundw
      case rel=>exact ⟨k+1,cs++ds,by omega,by go_num,B2.out,by rw [SN.out,List.length_append]; exact O2.out,C2.out⟩
      case measure=>simp [intOf]; omega
    · have hkl:k=l.length:=by omega
      subst hkl;have O:=WO.out;have C:=WC.out;rw [List.take_length,HL.out] at O C;have R:=Ap.RdO.fresh O;obtain ⟨_,a1,c1',hv,_⟩:=id R;subst hv;have RR:=Lib.hid R;have CC:=Lib.hid C;clear R O C;go_wp2_with fail;go_ret;exact ⟨_,_,rfl,⟨cs,Ap.RdO.imp RR.out fun _ _ h=>Or.inr h,CC.out.imp (ET.map fun _ _ hx=>Ap.RdO.imp hx fun _ _ h=>h.1)⟩,WB.out⟩
theorem v0k (fn:Nat) (caps:Array Value) (eg:∀ args w,(callFunc fn args).run Tryz.prog w=.ok (.enter fn args) w) (ok:Nat→Prop) (x:Value) (l:List Tr) (F:Tr→List Pr) (w:World) (hx:TsO ok w x l)
    (hF:∀ wr,Below w.heap.size w wr→∀ t∈l,∀ a,StrsO (fun b=>ok b∧b<w.heap.size) wr a t.a→Calls Tryz.prog fn (#[.agg #[a,.int .i64 t.e]]++caps) wr (OutP (fun b=>ok b∧b<w.heap.size) (F t) wr))
    (hl:l.length≤1000000000000) (hlen:(l.flatMap F).length≤1000000000000) :
    Calls Tryz.prog 162 #[x,.func (.func fn) #[] caps] w (OutP ok (l.flatMap F) w):=by
  obtain ⟨ax,cx,rfl,_,hval⟩:=hx.val;have HV:=Lib.hid hval;have HF:=Lib.hid hF;have HT:=Lib.hid (flat_take F l);have HS:=Lib.hid (z4y F l);obtain ⟨L,hL⟩:∃ L,l.flatMap F=L:=⟨_,rfl⟩
  rw [hL] at HT hlen ⊢;unfold OutP;have HL:=Lib.hid hL;clear hval hF hx hL
  go_enter Tryz.func162,Tryz.ntmps162
  go_wp2_with fail
  go_loopw [5,10] (fun v i wr=>∃ (k:Nat) (cs:List Value),k≤l.length∧i=.int .i64 k∧Below w.heap.size w wr∧wr.ownsRow w.heap.size 97 4 v ((l.take k).flatMap F).length cs∧Cl (EP (Apart (fun b=>ok b∨w.heap.size≤b) v) wr) 4 ((l.take k).flatMap F) cs) (fun _ i _=>l.length-(intOf i).toNat)
  case atStart=>exact ⟨0,[],Nat.zero_le _,rfl,Below.refl _ _,⟨rfl,.inl ⟨rfl,rfl⟩⟩,rfl⟩
  case round=>
    obtain ⟨k,cs,hk,rfl,hb,hown,hcs⟩:=hrel;have WB:=Lib.hid hb;have WO:=Lib.hid hown;have WC:=Lib.hid hcs;clear hb hown hcs
    by_cases hlt:k<l.length
    · obtain ⟨b1,o1,a,rfl,hok,e1,e2,hs⟩:=HV.out k hlt;have c1:wr.cell? ⟨b1,o1+k*2,none⟩=some a:=by rw [WB.out.cell (Ap.z0a e1)]; exact e1
      have c2:wr.cell? ⟨b1,o1+k*2+1,none⟩=some (.int .i64 l[k].e):=by rw [WB.out.cell (Ap.z0a e2)]; exact e2
      have HA:=Lib.hid hs;have TM:=Lib.hid (List.getElem_mem hlt);have SN:=Lib.hid (HS.out k hlt);have TK:=HT.out (k+1);rw [SN.out,List.length_append] at TK;generalize l[k]=t at *;obtain ⟨_,a',c',rfl,_⟩:=HA.out;go_wp2_with fail;refine (HF.out _ ?b1 t TM.out _ (Ap.RdO.below (Ap.RdO.imp HA.out fun b hlt ho=>⟨ho,hlt⟩) ?b2)).mono ?c1
      case b1=>exact WB.out.alloc WB.out.size _
      case b2=>exact WB.out.alloc WB.out.size _
      rintro e w1 ⟨a1,c1',rfl,ht1,hb1⟩;have B0:Below wr.heap.size wr w1:=((Below.refl _ _).alloc (Nat.le_refl _) _).trans (hb1.mono (by simp));obtain ⟨ds,hr,hc⟩:=ht1;have hO1:=Ap.own_below WO.out B0;obtain ⟨v2,w2,hrun,ho2,hg2,hb2,hf2⟩:=appP hO1 (Nat.le_trans WB.out.size B0.size) (Ap.RdO.rd hr) (Cl.cells _ EP.one hc) (by omega);have RUN:=Lib.hid hrun;have O2:=Lib.hid ho2;have B2:=Lib.hid ((WB.out.trans (B0.mono WB.out.size)).trans hb2)
      have C2:Hid (Cl (EP (Apart (fun b=>ok b∨w.heap.size≤b) v2) w2) 4 ((l.take (k+1)).flatMap F) (cs++ds)):=Lib.hid (by
        rw [SN.out];refine Cl.append EP.len ?_ ?_
        · refine Cl.imp (EP.map fun x m hx=>z0v (Ap.RdO.imp hx fun b hlt ho=>?_) hg2 hf2) hc
          rcases ho with ho | ho
          · exact ⟨.inl ho.1,fun e=>by have:=z2o WO.out b e; omega⟩
          · have ho':wr.heap.size+1≤b:=by simpa using ho
            have:=WB.out.size;exact ⟨.inr (by omega),fun e=>by have:=z2o WO.out b e; omega⟩
        · exact Cl.imp (EP.map fun x m hx=>z0v (z0e hx B0) hg2 hf2) WC.out)
      clear hrun ho2 hg2 hb2 hf2 hc hb1 hO1 B0;go_wp2_with (at_builtin; refine Ap.wpList_append_run (by rfl) _ _ _ _ rfl _ _ rfl rfl v2 w2 RUN.out ?_)
      go_roundw
      case rel=>exact ⟨k+1,cs++ds,by omega,by go_num,B2.out,by rw [SN.out,List.length_append]; exact O2.out,C2.out⟩
      case measure=>simp [intOf]; omega
    · have hkl:k=l.length:=by omega
      subst hkl;have O:=WO.out;have C:=WC.out;rw [List.take_length,HL.out] at O C;have R:=Ap.RdO.fresh O;obtain ⟨_,a1,c1',hv,_⟩:=id R;subst hv;have RR:=Lib.hid R;have CC:=Lib.hid C;clear R O C;go_wp2_with fail;go_ret;exact ⟨_,_,rfl,⟨cs,Ap.RdO.imp RR.out fun _ _ h=>Or.inr h,CC.out.imp (EP.map fun _ _ hx=>Ap.RdO.imp hx fun _ _ h=>h.1)⟩,WB.out⟩
theorem eachPT (fn:Nat) (caps:Array Value) (eg:∀ args w,(callFunc fn args).run Tryz.prog w=.ok (.enter fn args) w) (ok:Nat→Prop) (x:Value) (l:List Pr) (F:Pr→List Tr) (w:World) (hx:PsO ok w x l)
    (hF:∀ wr,Below w.heap.size w wr→∀ t∈l,∀ a a',StrsO (fun b=>ok b∧b<w.heap.size) wr a t.p.a→StrsO (fun b=>ok b∧b<w.heap.size) wr a' t.q.a→Calls Tryz.prog fn (#[.agg #[a,.int .i64 t.p.e,a',.int .i64 t.q.e]]++caps) wr (OutT (fun b=>ok b∧b<w.heap.size) (F t) wr))
    (hl:l.length≤1000000000000) (hlen:(l.flatMap F).length≤1000000000000) :
    Calls Tryz.prog 72 #[x,.func (.func fn) #[] caps] w (OutT ok (l.flatMap F) w):=by
  obtain ⟨ax,cx,rfl,_,hval⟩:=hx.val;have HV:=Lib.hid hval;have HF:=Lib.hid hF;have HT:=Lib.hid (flat_take F l);have HS:=Lib.hid (z4y F l);obtain ⟨L,hL⟩:∃ L,l.flatMap F=L:=⟨_,rfl⟩
  rw [hL] at HT hlen ⊢;unfold OutT;have HL:=Lib.hid hL;clear hval hF hx hL
  go_enter Tryz.func72,Tryz.ntmps72
  go_wp2_with fail
  go_loopw [5,10] (fun v i wr=>∃ (k:Nat) (cs:List Value),k≤l.length∧i=.int .i64 k∧Below w.heap.size w wr∧wr.ownsRow w.heap.size 67 2 v ((l.take k).flatMap F).length cs∧Cl (ET (Apart (fun b=>ok b∨w.heap.size≤b) v) wr) 2 ((l.take k).flatMap F) cs) (fun _ i _=>l.length-(intOf i).toNat)
  case atStart=>exact ⟨0,[],Nat.zero_le _,rfl,Below.refl _ _,⟨rfl,.inl ⟨rfl,rfl⟩⟩,rfl⟩
  case round=>
    obtain ⟨k,cs,hk,rfl,hb,hown,hcs⟩:=hrel;have WB:=Lib.hid hb;have WO:=Lib.hid hown;have WC:=Lib.hid hcs;clear hb hown hcs
    by_cases hlt:k<l.length
    · obtain ⟨b1,o1,a,a',rfl,hok,e1,e2,e3,e4,hs,hs'⟩:=HV.out k hlt;have c1:wr.cell? ⟨b1,o1+k*4,none⟩=some a:=by rw [WB.out.cell (Ap.z0a e1)]; exact e1
      have c2:wr.cell? ⟨b1,o1+k*4+1,none⟩=some (.int .i64 l[k].p.e):=by rw [WB.out.cell (Ap.z0a e2)]; exact e2
      have c3:wr.cell? ⟨b1,o1+k*4+2,none⟩=some a':=by rw [WB.out.cell (Ap.z0a e3)]; exact e3
      have c4:wr.cell? ⟨b1,o1+k*4+3,none⟩=some (.int .i64 l[k].q.e):=by rw [WB.out.cell (Ap.z0a e4)]; exact e4
      have HA:=Lib.hid hs;have HA':=Lib.hid hs';have TM:=Lib.hid (List.getElem_mem hlt);have SN:=Lib.hid (HS.out k hlt);have TK:=HT.out (k+1);rw [SN.out,List.length_append] at TK;generalize l[k]=t at *;obtain ⟨_,a1,c1_,rfl,_⟩:=HA.out;obtain ⟨_,a2,c2_,rfl,_⟩:=HA'.out;go_wp2_with fail;refine (HF.out _ ?b1 t TM.out _ _ (Ap.RdO.below (Ap.RdO.imp HA.out fun b hlt ho=>⟨ho,hlt⟩) ?b2) (Ap.RdO.below (Ap.RdO.imp HA'.out fun b hlt ho=>⟨ho,hlt⟩) ?b3)).mono ?c1
      case b1=>exact WB.out.alloc WB.out.size _
      case b2=>exact WB.out.alloc WB.out.size _
      case b3=>exact WB.out.alloc WB.out.size _
      rintro e w1 ⟨a1,c1',rfl,ht1,hb1⟩;have B0:Below wr.heap.size wr w1:=((Below.refl _ _).alloc (Nat.le_refl _) _).trans (hb1.mono (by simp));obtain ⟨ds,hr,hc⟩:=ht1;have hO1:=Ap.own_below WO.out B0;obtain ⟨v2,w2,hrun,ho2,hg2,hb2,hf2⟩:=appT hO1 (Nat.le_trans WB.out.size B0.size) (Ap.RdO.rd hr) (Cl.cells _ ET.one hc) (by omega);have RUN:=Lib.hid hrun;have O2:=Lib.hid ho2;have B2:=Lib.hid ((WB.out.trans (B0.mono WB.out.size)).trans hb2)
      have C2:Hid (Cl (ET (Apart (fun b=>ok b∨w.heap.size≤b) v2) w2) 2 ((l.take (k+1)).flatMap F) (cs++ds)):=Lib.hid (by
        rw [SN.out];refine Cl.append ET.len ?_ ?_
        · refine Cl.imp (ET.map fun x m hx=>z0v (Ap.RdO.imp hx fun b hlt ho=>?_) hg2 hf2) hc
          rcases ho with ho | ho
          · exact ⟨.inl ho.1,fun e=>by have:=z2o WO.out b e; omega⟩
          · have ho':wr.heap.size+1≤b:=by simpa using ho
            have:=WB.out.size;exact ⟨.inr (by omega),fun e=>by have:=z2o WO.out b e; omega⟩
        · exact Cl.imp (ET.map fun x m hx=>z0v (z0e hx B0) hg2 hf2) WC.out)
      clear hrun ho2 hg2 hb2 hf2 hc hb1 hO1 B0;go_wp2_with (at_builtin; refine Ap.wpList_append_run (by rfl) _ _ _ _ rfl _ _ rfl rfl v2 w2 RUN.out ?_)
      go_roundw
      case rel=>exact ⟨k+1,cs++ds,by omega,by go_num,B2.out,by rw [SN.out,List.length_append]; exact O2.out,C2.out⟩
      case measure=>simp [intOf]; omega
    · have hkl:k=l.length:=by omega
      subst hkl;have O:=WO.out;have C:=WC.out;rw [List.take_length,HL.out] at O C;have R:=Ap.RdO.fresh O;obtain ⟨_,a1,c1',hv,_⟩:=id R;subst hv;have RR:=Lib.hid R;have CC:=Lib.hid C;clear R O C;go_wp2_with fail;go_ret;exact ⟨_,_,rfl,⟨cs,Ap.RdO.imp RR.out fun _ _ h=>Or.inr h,CC.out.imp (ET.map fun _ _ hx=>Ap.RdO.imp hx fun _ _ h=>h.1)⟩,WB.out⟩
theorem y6e (fn:Nat) (caps:Array Value) (eg:∀ args w,(callFunc fn args).run Tryz.prog w=.ok (.enter fn args) w) (ok:Nat→Prop) (x:Value) (l:List Pr) (F:Pr→List Pr) (w:World) (hx:PsO ok w x l)
    (hF:∀ wr,Below w.heap.size w wr→∀ t∈l,∀ a a',StrsO (fun b=>ok b∧b<w.heap.size) wr a t.p.a→StrsO (fun b=>ok b∧b<w.heap.size) wr a' t.q.a→Calls Tryz.prog fn (#[.agg #[a,.int .i64 t.p.e,a',.int .i64 t.q.e]]++caps) wr (OutP (fun b=>ok b∧b<w.heap.size) (F t) wr))
    (hl:l.length≤1000000000000) (hlen:(l.flatMap F).length≤1000000000000) :
    Calls Tryz.prog 164 #[x,.func (.func fn) #[] caps] w (OutP ok (l.flatMap F) w):=by
  obtain ⟨ax,cx,rfl,_,hval⟩:=hx.val;have HV:=Lib.hid hval;have HF:=Lib.hid hF;have HT:=Lib.hid (flat_take F l);have HS:=Lib.hid (z4y F l);obtain ⟨L,hL⟩:∃ L,l.flatMap F=L:=⟨_,rfl⟩
  rw [hL] at HT hlen ⊢;unfold OutP;have HL:=Lib.hid hL;clear hval hF hx hL
  go_enter Tryz.func164,Tryz.ntmps164
  go_wp2_with fail
  go_loopw [5,10] (fun v i wr=>∃ (k:Nat) (cs:List Value),k≤l.length∧i=.int .i64 k∧Below w.heap.size w wr∧wr.ownsRow w.heap.size 97 4 v ((l.take k).flatMap F).length cs∧Cl (EP (Apart (fun b=>ok b∨w.heap.size≤b) v) wr) 4 ((l.take k).flatMap F) cs) (fun _ i _=>l.length-(intOf i).toNat)
  case atStart=>exact ⟨0,[],Nat.zero_le _,rfl,Below.refl _ _,⟨rfl,.inl ⟨rfl,rfl⟩⟩,rfl⟩
  case round=>
    obtain ⟨k,cs,hk,rfl,hb,hown,hcs⟩:=hrel;have WB:=Lib.hid hb;have WO:=Lib.hid hown;have WC:=Lib.hid hcs;clear hb hown hcs
    by_cases hlt:k<l.length
    · obtain ⟨b1,o1,a,a',rfl,hok,e1,e2,e3,e4,hs,hs'⟩:=HV.out k hlt;have c1:wr.cell? ⟨b1,o1+k*4,none⟩=some a:=by rw [WB.out.cell (Ap.z0a e1)]; exact e1
      have c2:wr.cell? ⟨b1,o1+k*4+1,none⟩=some (.int .i64 l[k].p.e):=by rw [WB.out.cell (Ap.z0a e2)]; exact e2
      have c3:wr.cell? ⟨b1,o1+k*4+2,none⟩=some a':=by rw [WB.out.cell (Ap.z0a e3)]; exact e3
      have c4:wr.cell? ⟨b1,o1+k*4+3,none⟩=some (.int .i64 l[k].q.e):=by rw [WB.out.cell (Ap.z0a e4)]; exact e4
      have HA:=Lib.hid hs;have HA':=Lib.hid hs';have TM:=Lib.hid (List.getElem_mem hlt);have SN:=Lib.hid (HS.out k hlt);have TK:=HT.out (k+1);rw [SN.out,List.length_append] at TK;generalize l[k]=t at *;obtain ⟨_,a1,c1_,rfl,_⟩:=HA.out;obtain ⟨_,a2,c2_,rfl,_⟩:=HA'.out;go_wp2_with fail;refine (HF.out _ ?b1 t TM.out _ _ (Ap.RdO.below (Ap.RdO.imp HA.out fun b hlt ho=>⟨ho,hlt⟩) ?b2) (Ap.RdO.below (Ap.RdO.imp HA'.out fun b hlt ho=>⟨ho,hlt⟩) ?b3)).mono ?c1
      case b1=>exact WB.out.alloc WB.out.size _
      case b2=>exact WB.out.alloc WB.out.size _
      case b3=>exact WB.out.alloc WB.out.size _
      rintro e w1 ⟨a1,c1',rfl,ht1,hb1⟩;have B0:Below wr.heap.size wr w1:=((Below.refl _ _).alloc (Nat.le_refl _) _).trans (hb1.mono (by simp));obtain ⟨ds,hr,hc⟩:=ht1;have hO1:=Ap.own_below WO.out B0;obtain ⟨v2,w2,hrun,ho2,hg2,hb2,hf2⟩:=appP hO1 (Nat.le_trans WB.out.size B0.size) (Ap.RdO.rd hr) (Cl.cells _ EP.one hc) (by omega);have RUN:=Lib.hid hrun;have O2:=Lib.hid ho2;have B2:=Lib.hid ((WB.out.trans (B0.mono WB.out.size)).trans hb2)
      have C2:Hid (Cl (EP (Apart (fun b=>ok b∨w.heap.size≤b) v2) w2) 4 ((l.take (k+1)).flatMap F) (cs++ds)):=Lib.hid (by
        rw [SN.out];refine Cl.append EP.len ?_ ?_
        · refine Cl.imp (EP.map fun x m hx=>z0v (Ap.RdO.imp hx fun b hlt ho=>?_) hg2 hf2) hc
          rcases ho with ho | ho
          · exact ⟨.inl ho.1,fun e=>by have:=z2o WO.out b e; omega⟩
          · have ho':wr.heap.size+1≤b:=by simpa using ho
            have:=WB.out.size;exact ⟨.inr (by omega),fun e=>by have:=z2o WO.out b e; omega⟩
        · exact Cl.imp (EP.map fun x m hx=>z0v (z0e hx B0) hg2 hf2) WC.out)
      clear hrun ho2 hg2 hb2 hf2 hc hb1 hO1 B0;go_wp2_with (at_builtin; refine Ap.wpList_append_run (by rfl) _ _ _ _ rfl _ _ rfl rfl v2 w2 RUN.out ?_)
      go_roundw
      case rel=>exact ⟨k+1,cs++ds,by omega,by go_num,B2.out,by rw [SN.out,List.length_append]; exact O2.out,C2.out⟩
      case measure=>simp [intOf]; omega
    · have hkl:k=l.length:=by omega
      subst hkl;have O:=WO.out;have C:=WC.out;rw [List.take_length,HL.out] at O C;have R:=Ap.RdO.fresh O;obtain ⟨_,a1,c1',hv,_⟩:=id R;subst hv;have RR:=Lib.hid R;have CC:=Lib.hid C;clear R O C;go_wp2_with fail;go_ret;exact ⟨_,_,rfl,⟨cs,Ap.RdO.imp RR.out fun _ _ h=>Or.inr h,CC.out.imp (EP.map fun _ _ hx=>Ap.RdO.imp hx fun _ _ h=>h.1)⟩,WB.out⟩
end Mn
namespace Pl
open Go Go.RowKit Rw So Ro
theorem x7n (a:Option Addr) (n c:Nat) (w:World) :
    Calls Tryz.prog 210 #[.slice a n c] w fun e w'=>e=.returned (.func (.func 231) #[] #[.pointer (some ⟨w.heap.size,0,none⟩)])∧w'=w.alloc (.cells #[.slice a n c] 22):=by
  go_enter Tryz.func210,Tryz.ntmps210
  go_wp2_with fail;go_ret;exact ⟨rfl,rfl⟩
theorem Told.stay {l:List Nd} (k:Nat) (args:Array Value) (A:World) (r:Nat) (o o':Obj) (h:A.heap[r]?=some o) (hc:o.isCells=false) (he:Told l k args A):Told l k args (A.putObj r o'):=by
  obtain ⟨v,rfl,hl,a,cap,rfl,h1,h2,h3⟩:=he;refine ⟨_,rfl,hl,a,cap,rfl,h1,h2,fun h0=>?_⟩;obtain ⟨b,off,rfl,hj⟩:=h3 h0;exact ⟨b,off,rfl,fun j u hu=>cell_kept (hj j u hu) (grownBy_putObj' A r o') fun q e=>by cases e; exact ⟨o,h,hc⟩⟩
theorem Told.size {l:List Nd} (k:Nat) (args:Array Value) (A:World) (he:Told l k args A):args.size=2:=by
  obtain ⟨v,rfl,_⟩:=he
  rfl
theorem iter_any (B:Nat) (v:Value) (l:List Nd) (wc w0:World) (hv:Nds wc v l) (hl:l.length≤4398046511104) (hbc:Below wc.heap.size wc w0) (hc:w0.cell? ⟨B,0,none⟩=some v) :
    Iter Tryz.prog 231 #[.pointer (some ⟨B,0,none⟩)] (rounds l) (Told l) wc.heap.size w0:=by
  intro l0 J Jx W hbW hJ hY hJ0;have hcW:W.cell? ⟨B,0,none⟩=some v:=by rw [hbW.cell (Ap.z0a hc)]; exact hc
  have hbcW:Below wc.heap.size wc W:=hbc.trans (hbW.mono hbc.size);have hvW:Nds W v l:=hv.below hbcW
  show Calls Tryz.prog 231 #[.func (.yield l0) #[] #[],.pointer (some ⟨B,0,none⟩)] W _
  cases h1:one l with
  | false=>
    refine (x7o B l0 v l W hcW hvW hl h1).mono ?_;rintro e w' ⟨hr,hb⟩;have e0:rounds l=0:=by unfold rounds; rw [h1]; rfl
    exact ⟨hr,_,.inl (by rw [e0]; exact hJ _ 0 W w' hJ0 (fun _ h=>h.elim) (Turn.of_below hb))⟩
  | true=>
    have e0:rounds l=l.length:=by unfold rounds; rw [h1]; rfl
    have hpos:=(y7x.1 h1).pos;rw [e0] at hY ⊢
    rcases hv.form with ⟨rfl,_⟩ | ⟨b,off,cap,rfl,hcap,hat⟩
    · exact absurd hpos (Nat.lt_irrefl 0)
    · have hb0:b<wc.heap.size:=Ap.z0a (hat 0 hpos).1
      have hatW:At W b off l:=fun k hk=>by
        obtain ⟨e1,e2,e3⟩:=hat k hk;exact ⟨by rw [hbcW.cell (Ap.z0a e1)]; exact e1,by rw [hbcW.cell (Ap.z0a e2)]; exact e2,by rw [hbcW.cell (Ap.z0a e3)]; exact e3⟩
      exact y7y B l0 b off cap wc.heap.size l W hcW hvW hatW hl h1 hbcW.size hb0 J Jx hJ hY hJ0
end Pl
namespace Se
open Go Go.RowKit Rw So
theorem z1d (t res:Tm) (kk s:Int) (nm:ByteArray) (ls:List (List Nd)) (hkids:kids (flat t)=ls) (hkd:kd t=kk) (hnm:nmT t=nm) (hsg:sg t=s) (hgo:∀ w,Calls Tryz.prog 97 #[.int .i64 kk] w fun e w'=>e=.returned (.int .i64 0)∧w=w') (v:Value) (w:World) (hv:Nds w v (flat t)) (hcm:∀ y w1,Rws w1 y ls→w.heap.size≤w1.heap.size→Calls Tryz.prog 98 #[.agg #[.int .i64 kk,.string nm,.int .i64 s],y] w1 (OutB w.heap.size res w1)) (hl:sz t≤400) :
    Calls Tryz.prog 64 #[v] w (OutB w.heap.size res w):=by
  have HK:Hid (∀ w1,Below w.heap.size w w1→Calls Tryz.prog 50 #[v] w1 (Rx.KidsOwn ls w1)):=Lib.hid fun w1 hb=>by
    have h:=Rx.z3p v (flat t) w1 (hv.below hb) (by rw [flat_len]; omega);rw [hkids] at h;exact h
  have GO:=Lib.hid hgo;have HCM:=Lib.hid hcm;obtain ⟨bb,oo,cc,rfl,hc,hlt,hw,hat⟩:=z2f hv;obtain ⟨nn,hn⟩:∃ n,sz t=n+1:=⟨sz t-1,by have:=z0l t; omega⟩
  rw [hn] at hc HK ⊢;have g3:(1:Int)≤(nn:Int)+1:=by omega
  rw [hkd,hnm,hsg] at hw;obtain ⟨e0,e1,e2⟩:=hw w (Below.refl _ _);unfold OutB;clear hat hv hl hn hw hcm hgo hkids hkd hnm hsg
  go_enter Tryz.func64,Tryz.ntmps64
  go_upto_region 1 with fail
  go_cut [3,4] (fun s3 s4 wx=>∃ (B:Nat),s3=.pointer (some ⟨B,0,none⟩)∧w.heap.size≤B∧BoxN wx B kk s nm∧Kd w.heap.size B wx s4 ls∧Below w.heap.size w wx)
  case first=>
    clear GO HCM
    go_region_with (first
      | (go_at_call 50
         (with_reducible refine (HK.out _ (Below.refl _ _).drew).mono ?_)
         rintro e w1 ⟨y,cs,rfl,hown,hk,hb1⟩;have B1:=Lib.hid ((Below.refl w.heap.size w).drew.trans hb1);have K1:Hid (Kd w.heap.size w1.heap.size w1 y ls):=Lib.hid (y5q hown hk (.inr (Nat.le_refl _)));have c0:w1.cell? ⟨bb,oo,none⟩=some (.int .i64 kk):=by rw [B1.out.cell (p:=⟨bb,oo,none⟩) hlt]; exact e0
         have c1:w1.cell? ⟨bb,oo+1,none⟩=some (.string nm):=by rw [B1.out.cell (p:=⟨bb,oo+1,none⟩) hlt]; exact e1
         have c2:w1.cell? ⟨bb,oo+2,none⟩=some (.int .i64 s):=by rw [B1.out.cell (p:=⟨bb,oo+2,none⟩) hlt]; exact e2
         have hbl1:bb<w1.heap.size:=Ap.z0a c0;clear hown hk hb1)
      | (go_at_call 50
         (refine (HK.out _ ((Below.refl _ _).alloc (Nat.le_refl _) _).drew).mono ?_)
         rintro e w1 ⟨y,cs,rfl,hown,hk,hb1⟩;have B1:=Lib.hid (((Below.refl w.heap.size w).alloc (Nat.le_refl _) _).drew.trans (hb1.mono (by simp)));have KB:Hid (∀ u1 u2 u3:Value,Kd w.heap.size w.heap.size (((w1.setCell ⟨w.heap.size,0,none⟩ u1).setCell ⟨w.heap.size,1,none⟩ u2).setCell ⟨w.heap.size,2,none⟩ u3) y ls):=Lib.hid fun u1 u2 u3=>((Kd.base (base':=w.heap.size) (B':=w.heap.size) (y5q (B:=w.heap.size) hown hk (.inl (by simp))) (by simp) (fun k h1 _ e=>by simp at h1; omega)).setB.setB).setB
         have k0:w1.cell? ⟨w.heap.size,0,none⟩=some (.int .i64 0):=by rw [hb1.cell (p:=⟨w.heap.size,0,none⟩) (by simp)]; simp [go_sem]
         have k1:w1.cell? ⟨w.heap.size,1,none⟩=some (.string ⟨#[]⟩):=by rw [hb1.cell (p:=⟨w.heap.size,1,none⟩) (by simp)]; simp [go_sem]
         have k2:w1.cell? ⟨w.heap.size,2,none⟩=some (.int .i64 0):=by rw [hb1.cell (p:=⟨w.heap.size,2,none⟩) (by simp)]; simp [go_sem]
         have f0:w1.frozen? ⟨w.heap.size,0,none⟩=false:=by rw [hb1.frozen (p:=⟨w.heap.size,0,none⟩) (by simp)]; simp [go_sem]
         have f1:w1.frozen? ⟨w.heap.size,1,none⟩=false:=by rw [hb1.frozen (p:=⟨w.heap.size,1,none⟩) (by simp)]; simp [go_sem]
         have f2:w1.frozen? ⟨w.heap.size,2,none⟩=false:=by rw [hb1.frozen (p:=⟨w.heap.size,2,none⟩) (by simp)]; simp [go_sem]
         have c0:w1.cell? ⟨bb,oo,none⟩=some (.int .i64 kk):=by rw [B1.out.cell (p:=⟨bb,oo,none⟩) hlt]; exact e0
         have c1:w1.cell? ⟨bb,oo+1,none⟩=some (.string nm):=by rw [B1.out.cell (p:=⟨bb,oo+1,none⟩) hlt]; exact e1
         have c2:w1.cell? ⟨bb,oo+2,none⟩=some (.int .i64 s):=by rw [B1.out.cell (p:=⟨bb,oo+2,none⟩) hlt]; exact e2
         have hbl1:bb<w1.heap.size:=Ap.z0a c0;clear hown hk hb1)
      | fail)
    all_goals go_wp2_with fail
    all_goals go_meet
    all_goals first
      | exact ⟨_,rfl,B1.out.size,⟨by simp,by simp,by simp⟩,K1.out.below (z0f _ _),B1.out.alloc B1.out.size _⟩
      | exact ⟨_,rfl,Nat.le_refl _,y4d k0 k1 k2,KB.out _ _ _,((B1.out.setCell (Nat.le_refl _) _).setCell (Nat.le_refl _) _).setCell (Nat.le_refl _) _⟩
  case rest=>
    obtain ⟨B,rfl,hB,hbx,hkd,hbel⟩:=hcut;have BB:=Lib.hid hbel;have BX:=Lib.hid hbx;have KK:=Lib.hid hkd;have HLB:=Lib.hid hB;obtain ⟨x0,x1,x2⟩:=hbx;clear hbel HK e0 e1 e2 hB;obtain ⟨_,ak,ck,rfl,-⟩:=id KK.out.1.rws.choose_spec.1;clear hkd;go_wp2_with fail;refine (GO.out _).mono ?_;rintro e w0 ⟨rfl,rfl⟩;go_wp2_with fail;refine Go.wp_loop_rounds 1 ?_;rw [rounds_succ];go_wp2_with fail;unfold OutB at HCM;refine (HCM.out _ _ KK.out.1.rws (Nat.le_trans HLB.out (Nat.le_of_lt BX.out.lt))).mono ?_;rintro e w2 ⟨z,rfl,hn,hb⟩;have N2:=Lib.hid hn;have D2:=Lib.hid (BB.out.trans (hb.mono BB.out.size));clear hn hb;go_wp2_with fail;go_ret;exact ⟨_,rfl,N2.out,D2.out⟩
theorem y7k (s:ByteArray) (v:Value) (w:World) (hv:Nds w v (flat (.act s))) (hl:sz (.act s)≤400) :
    Calls Tryz.prog 64 #[v] w (OutB w.heap.size (.act s) w):=
  z1d (.act s) (.act s) 1 0 s [] (rfl) rfl rfl rfl (fun w=>z1k (.act s) w) v w hv (fun _ _ h hb=>z3t w.heap.size 1 0 s [] (.act s) (by simp [flat]) (by decide) _ _ h (by simp) (by omega) hb) hl
theorem y2h  (v:Value) (w:World) (hv:Nds w v (flat .yield)) (hl:sz .yield≤400) :
    Calls Tryz.prog 64 #[v] w (OutB w.heap.size (.yield) w):=
  z1d .yield (.yield) 4 0 ⟨#[]⟩ [] (rfl) rfl rfl rfl (fun w=>z1k .yield w) v w hv (fun _ _ h hb=>z3t w.heap.size 4 0 ⟨#[]⟩ [] .yield (by simp [flat,nOf]) (by decide) _ _ h (by simp) (by omega) hb) hl
theorem y4x (s:Int) (v:Value) (w:World) (hv:Nds w v (flat (.over s))) (hl:sz (.over s)≤400) :
    Calls Tryz.prog 64 #[v] w (OutB w.heap.size (.over s) w):=
  z1d (.over s) (.over s) 11 s ⟨#[]⟩ [] (rfl) rfl rfl rfl (fun w=>z1k (.over s) w) v w hv (fun _ _ h hb=>z3t w.heap.size 11 s ⟨#[]⟩ [] (.over s) (by simp [flat]) (by decide) _ _ h (by simp) (by omega) hb) hl
theorem y7i (s:Int) (c:Tm) (v:Value) (w:World) (hv:Nds w v (flat (.fin s c))) (hl:sz (.fin s c)≤400) :
    Calls Tryz.prog 64 #[v] w (OutB w.heap.size (.fin s c) w):=
  z1d (.fin s c) (.fin s c) 14 s ⟨#[]⟩ [flat c] (z8c s c) rfl rfl rfl (fun w=>z1k (.fin s c) w) v w hv (fun _ _ h hb=>z3t w.heap.size 14 s ⟨#[]⟩ [flat c] (.fin s c) (by simp [flat]) (by decide) _ _ h (by simp) (by omega) hb) hl
theorem y7j (a b:Tm) (v:Value) (w:World) (hv:Nds w v (flat (.alt a b))) (hl:sz (.alt a b)≤400) :
    Calls Tryz.prog 64 #[v] w (OutB w.heap.size (.alt a b) w):=
  z1d (.alt a b) (.alt a b) 6 0 ⟨#[]⟩ [flat a,flat b] (z6m a b) rfl rfl rfl (fun w=>z1k (.alt a b) w) v w hv (fun _ _ h hb=>z3t w.heap.size 6 0 ⟨#[]⟩ [flat a,flat b] (.alt a b) (by simp [flat,nOf]) (by decide) _ _ h (by simp) (by omega) hb) hl
theorem y4w (a b:Tm) (v:Value) (w:World) (hv:Nds w v (flat (.pair a b))) (hl:sz (.pair a b)≤400) :
    Calls Tryz.prog 64 #[v] w (OutB w.heap.size (.pair a b) w):=
  z1d (.pair a b) (.pair a b) 10 0 ⟨#[]⟩ [flat a,flat b] (z4u a b) rfl rfl rfl (fun w=>z1k (.pair a b) w) v w hv (fun _ _ h hb=>z3t w.heap.size 10 0 ⟨#[]⟩ [flat a,flat b] (.pair a b) (by simp [flat,nOf]) (by decide) _ _ h (by simp) (by omega) hb) hl
theorem y4v  (v:Value) (w:World) (hv:Nds w v (flat .skip)) (hl:sz .skip≤400) :
    Calls Tryz.prog 64 #[v] w (OutB w.heap.size (.over 1) w):=
  z1d .skip (.over 1) 2 0 ⟨#[]⟩ [] (rfl) rfl rfl rfl (fun w=>z1k .skip w) v w hv (fun _ _ h hb=>x4e w.heap.size _ _ h hb) hl
theorem y2i  (v:Value) (w:World) (hv:Nds w v (flat .throw)) (hl:sz .throw≤400) :
    Calls Tryz.prog 64 #[v] w (OutB w.heap.size (.over 2) w):=
  z1d .throw (.over 2) 3 0 ⟨#[]⟩ [] (rfl) rfl rfl rfl (fun w=>z1k .throw w) v w hv (fun _ _ h hb=>y8x w.heap.size _ _ h hb) hl
theorem z2s (t a b res:Tm) (kk:Int) (hkids:kids (flat t)=[flat a,flat b]) (hkd:kd t=kk) (hnm:nmT t=⟨#[]⟩) (hsg:sg t=0) (hgo:∀ w,Calls Tryz.prog 97 #[.int .i64 kk] w fun e w'=>e=.returned (.int .i64 1)∧w=w') (v:Value) (w:World) (hv:Nds w v (flat t)) (PA:Hid (PS a)) (hcm:∀ g ck y0 y1 w1,w1.cell? ⟨g,0,none⟩=some y0→w1.cell? ⟨g,1,none⟩=some y1→NdO w.heap.size w1 y0 (S a)→Nds w1 y1 (flat b)→w.heap.size≤w1.heap.size→Calls Tryz.prog 98 #[.agg #[.int .i64 kk,.string ⟨#[]⟩,.int .i64 0],.slice (some ⟨g,0,none⟩) 2 ck] w1 (OutB w.heap.size res w1)) (hl:sz t≤400) :
    Calls Tryz.prog 64 #[v] w (OutB w.heap.size res w):=by
  have HK:Hid (∀ w1,Below w.heap.size w w1→Calls Tryz.prog 50 #[v] w1 (Rx.KidsOwn [flat a,flat b] w1)):=Lib.hid fun w1 hb=>by
    have h:=Rx.z3p v (flat t) w1 (hv.below hb) (by rw [flat_len]; omega);rw [hkids] at h;exact h
  have GO:=Lib.hid hgo;have HCM:=Lib.hid hcm;obtain ⟨bb,oo,cc,rfl,hc,hlt,hw,hat⟩:=z2f hv;obtain ⟨nn,hn⟩:∃ n,sz t=n+1:=⟨sz t-1,by have:=z0l t; omega⟩
  rw [hn] at hc HK ⊢;have g3:(1:Int)≤(nn:Int)+1:=by omega
  rw [hkd,hnm,hsg] at hw;obtain ⟨e0,e1,e2⟩:=hw w (Below.refl _ _);unfold OutB;clear hat hv hl hn hw hcm hgo hkids hkd hnm hsg
  go_enter Tryz.func64,Tryz.ntmps64
  go_upto_region 1 with fail
  go_cut [3,4] (fun s3 s4 wx=>∃ (B:Nat),s3=.pointer (some ⟨B,0,none⟩)∧w.heap.size≤B∧BoxN wx B kk 0 ⟨#[]⟩∧Kd w.heap.size B wx s4 [flat a,flat b]∧Below w.heap.size w wx)
  case first=>
    clear GO HCM
    go_region_with (first
      | (go_at_call 50
         (with_reducible refine (HK.out _ (Below.refl _ _).drew).mono ?_)
         rintro e w1 ⟨y,cs,rfl,hown,hk,hb1⟩;have B1:=Lib.hid ((Below.refl w.heap.size w).drew.trans hb1);have K1:Hid (Kd w.heap.size w1.heap.size w1 y [flat a,flat b]):=Lib.hid (y5q hown hk (.inr (Nat.le_refl _)));have c0:w1.cell? ⟨bb,oo,none⟩=some (.int .i64 kk):=by rw [B1.out.cell (p:=⟨bb,oo,none⟩) hlt]; exact e0
         have c1:w1.cell? ⟨bb,oo+1,none⟩=some (.string ⟨#[]⟩):=by rw [B1.out.cell (p:=⟨bb,oo+1,none⟩) hlt]; exact e1
         have c2:w1.cell? ⟨bb,oo+2,none⟩=some (.int .i64 0):=by rw [B1.out.cell (p:=⟨bb,oo+2,none⟩) hlt]; exact e2
         have hbl1:bb<w1.heap.size:=Ap.z0a c0;clear hown hk hb1)
      | (go_at_call 50
         (refine (HK.out _ ((Below.refl _ _).alloc (Nat.le_refl _) _).drew).mono ?_)
         rintro e w1 ⟨y,cs,rfl,hown,hk,hb1⟩;have B1:=Lib.hid (((Below.refl w.heap.size w).alloc (Nat.le_refl _) _).drew.trans (hb1.mono (by simp)));have KB:Hid (∀ u1 u2 u3:Value,Kd w.heap.size w.heap.size (((w1.setCell ⟨w.heap.size,0,none⟩ u1).setCell ⟨w.heap.size,1,none⟩ u2).setCell ⟨w.heap.size,2,none⟩ u3) y [flat a,flat b]):=Lib.hid fun u1 u2 u3=>((Kd.base (base':=w.heap.size) (B':=w.heap.size) (y5q (B:=w.heap.size) hown hk (.inl (by simp))) (by simp) (fun k h1 _ e=>by simp at h1; omega)).setB.setB).setB
         have k0:w1.cell? ⟨w.heap.size,0,none⟩=some (.int .i64 0):=by rw [hb1.cell (p:=⟨w.heap.size,0,none⟩) (by simp)]; simp [go_sem]
         have k1:w1.cell? ⟨w.heap.size,1,none⟩=some (.string ⟨#[]⟩):=by rw [hb1.cell (p:=⟨w.heap.size,1,none⟩) (by simp)]; simp [go_sem]
         have k2:w1.cell? ⟨w.heap.size,2,none⟩=some (.int .i64 0):=by rw [hb1.cell (p:=⟨w.heap.size,2,none⟩) (by simp)]; simp [go_sem]
         have f0:w1.frozen? ⟨w.heap.size,0,none⟩=false:=by rw [hb1.frozen (p:=⟨w.heap.size,0,none⟩) (by simp)]; simp [go_sem]
         have f1:w1.frozen? ⟨w.heap.size,1,none⟩=false:=by rw [hb1.frozen (p:=⟨w.heap.size,1,none⟩) (by simp)]; simp [go_sem]
         have f2:w1.frozen? ⟨w.heap.size,2,none⟩=false:=by rw [hb1.frozen (p:=⟨w.heap.size,2,none⟩) (by simp)]; simp [go_sem]
         have c0:w1.cell? ⟨bb,oo,none⟩=some (.int .i64 kk):=by rw [B1.out.cell (p:=⟨bb,oo,none⟩) hlt]; exact e0
         have c1:w1.cell? ⟨bb,oo+1,none⟩=some (.string ⟨#[]⟩):=by rw [B1.out.cell (p:=⟨bb,oo+1,none⟩) hlt]; exact e1
         have c2:w1.cell? ⟨bb,oo+2,none⟩=some (.int .i64 0):=by rw [B1.out.cell (p:=⟨bb,oo+2,none⟩) hlt]; exact e2
         have hbl1:bb<w1.heap.size:=Ap.z0a c0;clear hown hk hb1)
      | fail)
    all_goals go_wp2_with fail
    all_goals go_meet
    all_goals first
      | exact ⟨_,rfl,B1.out.size,⟨by simp,by simp,by simp⟩,K1.out.below (z0f _ _),B1.out.alloc B1.out.size _⟩
      | exact ⟨_,rfl,Nat.le_refl _,y4d k0 k1 k2,KB.out _ _ _,((B1.out.setCell (Nat.le_refl _) _).setCell (Nat.le_refl _) _).setCell (Nat.le_refl _) _⟩
  case rest=>
    obtain ⟨B,rfl,hB,hbx,hkd,hbel⟩:=hcut;have BB:=Lib.hid hbel;have BX:=Lib.hid hbx;have KK:=Lib.hid hkd;have HLB:=Lib.hid hB;obtain ⟨x0,x1,x2⟩:=hbx;clear hbel HK e0 e1 e2 hB;obtain ⟨g,ck,y0,y1,rfl,hg,hgB,hgl,hf,q0,q1,r0,r1⟩:=Kd.two hkd;clear hkd;go_wp2_with fail;refine (GO.out _).mono ?_;rintro e w0 ⟨rfl,rfl⟩;go_wp2_with fail;refine Go.wp_loop_rounds 2 ?_;rw [rounds_succ];go_wp2_with fail;refine (PA.out y0 wc (Ap.RdO.rd r0)).mono ?_;rintro e w1 ⟨z,rfl,hn,hb⟩;obtain ⟨_,az,cz,rfl,-⟩:=id hn;have hg1:g<w1.heap.size:=Nat.lt_of_lt_of_le hgl hb.size;have p0:w1.cell? ⟨g,0,none⟩=some y0:=by rw [hb.cell (p:=⟨g,0,none⟩) hgl]; exact q0
    have p1:w1.cell? ⟨g,1,none⟩=some y1:=by rw [hb.cell (p:=⟨g,1,none⟩) hgl]; exact q1
    have hf1:∀ j,w1.frozen? ⟨g,j,none⟩=false:=fun j=>by rw [hb.frozen (p:=⟨g,j,none⟩) hgl]; exact hf j
    have f0:=hf1 0;have HF1:=Lib.hid hf1;have X1:=Lib.hid (BX.out.below hb);have D1:=Lib.hid (BB.out.trans (hb.mono BB.out.size));have Z1:=Lib.hid hn;have Y1:=Lib.hid (Ap.RdO.below r1 hb);clear hn hb hf hf1;go_wp2_with fail;rw [rounds_succ];have D1s:=Lib.hid (D1.out.setCell (p:=⟨g,0,none⟩) (show w.heap.size≤g from hg) (.slice az (flat (S a)).length cz));have X1s:=Lib.hid (BoxN.set (o:=0) (x:=.slice az (flat (S a)).length cz) X1.out (Ne.symm hgB));obtain ⟨v0,v1,v2⟩:=X1s.out;have ZS:Hid (NdO w.heap.size (w1.setCell ⟨g,0,none⟩ (.slice az (flat (S a)).length cz)) (.slice az (flat (S a)).length cz) (S a)):=Lib.hid (NdO.more (z2x Z1.out fun k hk=>by omega) (Nat.le_trans HLB.out (Nat.le_of_lt BX.out.lt)));have s0:=z1g (x:=.slice az (flat (S a)).length cz) p0;have s1:=(z1y (g:=g) (x:=.slice az (flat (S a)).length cz) (show 0≠1 by decide)).trans p1;have YS:=Lib.hid (Ap.RdO.rd (z2x (o:=0) (x:=.slice az (flat (S a)).length cz) Y1.out fun k hk=>hk.2.2));go_wp2_with fail;unfold OutB at HCM;refine (HCM.out g ck _ _ _ s0 s1 ZS.out YS.out D1s.out.size).mono ?_;rintro e w3 ⟨u,rfl,hn,hb⟩;have N3:=Lib.hid hn;have D3:=Lib.hid (D1s.out.trans (hb.mono D1s.out.size));clear hn hb;go_wp2_with fail;go_ret;exact ⟨_,rfl,N3.out,D3.out⟩
theorem y7g (a b:Tm) (v:Value) (w:World) (hv:Nds w v (flat (.seq a b))) (PA:Hid (PS a)) (PB:Hid (PS b)) (hl:sz (.seq a b)≤400) :
    Calls Tryz.prog 64 #[v] w (OutB w.heap.size (sSeq S (S a) b) w):=
  z2s (.seq a b) a b (sSeq S (S a) b) 5 (z6j a b) rfl rfl rfl (fun w=>z1k (.seq a b) w) v w hv PA (fun g ck y0 y1 w1 s0 s1 ZS YS hb=>v0q w.heap.size (S a) b g ck y0 y1 w1 s0 s1 ZS YS PB hb (by have:=S_sz a; simp only [sz] at *; omega)) hl
theorem y4y (a b:Tm) (v:Value) (w:World) (hv:Nds w v (flat (.hand a b))) (PA:Hid (PS a)) (PB:Hid (PS b)) (hx:Hid (kd (S a)≠14)) (hl:sz (.hand a b)≤400) :
    Calls Tryz.prog 64 #[v] w (OutB w.heap.size (sHand S (S a) b) w):=
  z2s (.hand a b) a b (sHand S (S a) b) 8 (z4v a b) rfl rfl rfl (fun w=>z1k (.hand a b) w) v w hv PA (fun g ck y0 y1 w1 s0 s1 ZS YS hb=>x4f w.heap.size (S a) b g ck y0 y1 w1 s0 s1 ZS YS PB hx hb (by have:=S_sz a; simp only [sz] at *; omega)) hl
theorem y2k (a b:Tm) (v:Value) (w:World) (hv:Nds w v (flat (.going a b))) (PA:Hid (PS a)) (hl:sz (.going a b)≤400) :
    Calls Tryz.prog 64 #[v] w (OutB w.heap.size (sGoing (S a) b) w):=
  z2s (.going a b) a b (sGoing (S a) b) 12 (z3o a b) rfl rfl rfl (fun w=>z1k (.going a b) w) v w hv PA (fun g ck y0 y1 w1 s0 s1 ZS YS hb=>y8z w.heap.size (S a) b g ck y0 y1 w1 s0 s1 ZS YS hb (by have:=S_sz a; simp only [sz] at *; omega)) hl
theorem y2j (a b:Tm) (v:Value) (w:World) (hv:Nds w v (flat (.stack a b))) (PA:Hid (PS a)) (hl:sz (.stack a b)≤400) :
    Calls Tryz.prog 64 #[v] w (OutB w.heap.size (stk (S a) b) w):=
  z2s (.stack a b) a b (stk (S a) b) 13 (z3n a b) rfl rfl rfl (fun w=>z1k (.stack a b) w) v w hv PA (fun g ck y0 y1 w1 s0 s1 ZS YS hb=>y8y w.heap.size (S a) b g ck y0 y1 w1 s0 s1 ZS YS hb (by have:=S_sz a; simp only [sz] at *; omega)) hl
end Se
end Go.Proofs.YtaapnkoooofalaaGreat
