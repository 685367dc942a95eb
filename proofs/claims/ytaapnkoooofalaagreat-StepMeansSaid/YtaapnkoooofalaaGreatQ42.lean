/- Laws that the last text leans on. -/
import Derived.Test.YtaapnkoooofalaaGreatQ41
import Derived.Laws.EntriesVeiled
import Derived.Test.YtaapnkoooofalaaGreatQ27

set_option maxRecDepth 20000
set_option maxHeartbeats 4000000
namespace Go.Proofs.YtaapnkoooofalaaGreat
namespace Tr
open Go Go.RowKit
def OutB (base D L0 M0 R0 n k:Nat) (left:List Rst) (w:World) (rv:Value) (dl:List ByteArray) (acc:List (List ByteArray)) (w':World):Prop:=
  ∃ rv' L,Good k left L∧Acc base D R0 w' rv' (acc++L.map (dl++·))∧Dn w' D n dl∧Fr D R0 w w' rv rv'∧Fix base D L0 M0 R0 rv'∧L.length≤9 ^ k
def Mx1 (base D L0 M0 R0 n k:Nat) (A B:List ByteArray):Prop:=
  ∀ (w:World) (rv lv:Value) (m:Nat) (dl:List ByteArray) (left:List Rst) (acc:List (List ByteArray)),dl.length=m→In base D L0 M0 R0 n k A B w rv lv dl left acc→acc.length+9 ^ k≤1000000000→
    Calls Tryz.prog 228 #[.slice (some ⟨D,0,none⟩) m n,lv,.pointer (some ⟨L0,0,none⟩),.pointer (some ⟨M0,0,none⟩),.pointer (some ⟨R0,0,none⟩)] w fun e w'=>e=.returned (.tuple #[])∧OutB base D L0 M0 R0 n k left w rv dl acc w'
def LoopR (base D L0 M0 R0 n k:Nat) (A B:List ByteArray) (w:World) (rv:Value) (dl:List ByteArray) (left:List Rst) (acc:List (List ByteArray)) (dv lv':Value) (wr:World):Prop:=
  ∃ k' dl' left' rv' acc',dv=.slice (some ⟨D,0,none⟩) dl'.length n∧In base D L0 M0 R0 n k' A B wr rv' lv' dl' left' acc'∧k'≤k∧Fr D R0 w wr rv rv'∧(∃ t,dl'=dl++t)∧acc'.length+9 ^ k'≤acc.length+9 ^ k∧
    (∀ L',Good k' left' L'→∃ L,Good k left L∧acc++L.map (dl++·)=acc'++L'.map (dl'++·))
theorem In.few_len {base D L0 M0 R0 n k:Nat} {A B:List ByteArray} {w:World} {rv lv:Value} {dl:List ByteArray} {left:List Rst} {acc:List (List ByteArray)} (h:In base D L0 M0 R0 n k A B w rv lv dl left acc):left.length≤100000:=
  Nat.le_trans (Nat.le_trans (Nat.le_mul_of_pos_right _ Nat.one_le_two_pow) h.few) (by omega)
theorem In.slice {base D L0 M0 R0 n k:Nat} {A B:List ByteArray} {w:World} {rv lv:Value} {dl:List ByteArray} {left:List Rst} {acc:List (List ByteArray)} (h:In base D L0 M0 R0 n k A B w rv lv dl left acc):∃ a c,lv=.slice a left.length c:=by
  obtain ⟨a,c,hv,_⟩:=h.rs.form;exact ⟨a,c,hv⟩
theorem y5i:∀ (l m:List ByteArray),l.Nodup→(∀ x∈l,x∈m)→l.length≤m.length
  | [],m,_,_=>Nat.zero_le _
  | x::l,m,h,hs=>by
    obtain ⟨h1,h2⟩:=List.nodup_cons.1 h;obtain ⟨s,t,rfl⟩:=List.append_of_mem (hs x (by simp))
    have:=y5i l (s++t) h2 fun y hy=>by
      have h3:=hs y (by simp [hy]);simp only [List.mem_append,List.mem_cons] at h3 ⊢
      rcases h3 with h3 | rfl | h3
      · exact .inl h3
      · exact absurd hy h1
      · exact .inr h3
    simp at this ⊢;omega
theorem In.fresh {base D L0 M0 R0 n k:Nat} {A B:List ByteArray} {w:World} {rv lv:Value} {dl:List ByteArray} {left:List Rst} {acc:List (List ByteArray)} (h:In base D L0 M0 R0 n k A B w rv lv dl left acc) {b:Nat} (hb:w.heap.size≤b):Ok D R0 rv b:=by
  obtain ⟨_,_,hR,hD⟩:=h.lts;refine ⟨by omega,by omega,fun e=>?_⟩;obtain ⟨_,_,_,hown,_⟩:=h.acc;have:=Ap.z6g hown b e.symm;omega
theorem In.runG {base D L0 M0 R0 n k g:Nat} {A B:List ByteArray} {w w1:World} {rv lv:Value} {dl:List ByteArray} {left:List Rst} {acc:List (List ByteArray)} {x:ByteArray} (_h:In base D L0 M0 R0 n k A B w rv lv dl left acc) (hg:w.grownBy w1 (some D)) (hd:Dn w1 D n dl) (hroom:dl.length<n) (hx:w1.cell? ⟨g,0,none⟩=some (.string x)) :
    ∃ w2,(Builtin.append_ #[65,65] 65 #[.slice (some ⟨D,0,none⟩) dl.length n,.slice (some ⟨g,0,none⟩) 1 1]).run Tryz.prog w1=.ok (.slice (some ⟨D,0,none⟩) (dl.length+1) n) w2∧Dn w2 D n (dl++[x])∧w.grownBy w2 (some D)∧w1.grownBy w2 (some D):=by
  obtain ⟨w2,h1,h2,h3⟩:=z8y hd hroom hx;exact ⟨w2,h1,h2,z0c hg h3,h3⟩
theorem gb_box (w:World) (o:Obj) (r:Option Nat):w.grownBy (w.alloc o).drew r:=z0r ((Below.refl _ _).alloc (Nat.le_refl _) o).drew
theorem z8e {w w1:World} {r:Option Nat} (h:w.grownBy w1 r) (o:Obj):w.grownBy (w1.alloc o) r:=z0c h (z0r ((Below.refl _ _).alloc (Nat.le_refl _) o))
theorem z8f {w:World} {D n:Nat} {dl:List ByteArray} (h:Dn w D n dl) (o:Obj):Dn (w.alloc o) D n dl:=h.block (((Below.refl _ _).alloc (Nat.le_refl _) o).block D h.lt)
theorem rwo_fr {base D R0:Nat} {w w':World} {rv rv':Value} (h:Fr D R0 w w' rv rv') {cs:List Value} {rs:List (List ByteArray)} (hr:RwO (OkB base D R0 rv) w cs rs):RwO (OkB base D R0 rv') w' cs rs:=hr.map fun _ _ h'=>h.rdoB h'
theorem z8u {wr:World} {base n:Nat} {v a:Value} {cs:List Value} (hown:wr.ownsRow base 65 1 v n cs) (hbase:base≤wr.heap.size) (ha:a.oneCell'=true) (hlen:n≤1000000000) :
    ∃ v' w',(Builtin.append_ #[185,185] 185 #[v,.slice (some ⟨wr.heap.size,0,none⟩) 1 1]).run Tryz.prog (wr.alloc (.cells #[a] 65))=.ok v' w'∧
      w'.ownsRow base 65 1 v' (n+1) (cs++[a])∧wr.grownBy w' v.ownBlock∧Below base wr w'∧Ap.Fresh wr v v':=by
  obtain ⟨i0,hi,hz,hs1,hb8⟩:=info_parts infoR
  obtain ⟨v',w',h1,h2,h3,h4,h5⟩:=Ap.z0w (P:=Tryz.prog) (ty:=185) Tryz.underlying185 hi hz hs1 hb8 (by rfl) (by omega) hown hbase #[a] rfl
    (fun u hu=>by
      simp at hu;subst hu;exact ha) (by unfold maxLen; omega) (by omega)
  exact ⟨v',w',h1,by simpa using h2,h3,h4,h5⟩
theorem told {base D L0 M0 R0 n k:Nat} {A B:List ByteArray} {w w2:World} {rv lv vc:Value} {dl:List ByteArray} {left:List Rst} {acc:List (List ByteArray)} (h:In base D L0 M0 R0 n k A B w rv lv dl left acc) (hb2:Below w.heap.size w w2) (hoc:w2.ownsRow w.heap.size 9 1 vc dl.length (dl.map .string)) (hacc:acc.length≤1000000000) :
    ∃ v' w3,(Builtin.append_ #[185,185] 185 #[rv,.slice (some ⟨w2.heap.size,0,none⟩) 1 1]).run Tryz.prog (w2.alloc (.cells #[vc] 65))=.ok v' w3∧(∃ a c,v'=.slice a (acc.length+1) c)∧w3.cell? ⟨R0,0,none⟩=some rv∧w3.frozen? ⟨R0,0,none⟩=false∧
      Acc base D R0 (w3.setCell ⟨R0,0,none⟩ v') v' (acc++[dl])∧Fr D R0 w (w3.setCell ⟨R0,0,none⟩ v') rv v'∧Dn (w3.setCell ⟨R0,0,none⟩ v') D n dl∧Fix base D L0 M0 R0 v':=by
  have h2:=h.below hb2;obtain ⟨hL,hM,hR,hD⟩:=h2.lts;obtain ⟨r1,r2,cs,r3,r4⟩:=h2.acc
  have hvc:vc.oneCell'=true:=by
    obtain ⟨_,a,c,rfl,_⟩:=Ap.Rd.owned hoc
    rfl
  obtain ⟨v',w3,hrun,hown,hg,hbb,hfr⟩:=z8u (a:=vc) r3 h2.bs hvc hacc;have hF3:Fr D R0 w2 w3 rv v':=⟨⟨hg.os,hg.tape,hg.output,hg.size⟩,fun b hb _ _ hne=>hg.block b hb hne,hfr.elim .inl fun ⟨k,h1,h2⟩=>.inr ⟨k,h1,h2⟩⟩
  have hFs:Fr D R0 w3 (w3.setCell ⟨R0,0,none⟩ v') v' v':=by
    have:=z0n w3 R0 0 v';exact ⟨⟨this.os,this.tape,this.output,this.size⟩,fun b hb hne _ _=>this.block b hb (fun e=>hne (by cases e; rfl)),.inl rfl⟩
  have hF:Fr D R0 w (w3.setCell ⟨R0,0,none⟩ v') rv v':=((Fr.below hb2).trans hF3).trans hFs;have hfx:Fix base D L0 M0 R0 v':=h2.fx.next hF3 hL hM hR hD;have c3:w3.cell? ⟨R0,0,none⟩=some rv:=hg.cell (a:=⟨R0,0,none⟩) r1 h2.fx.rr
  have f3:w3.frozen? ⟨R0,0,none⟩=false:=by
    rw [World.frozen?_of_block (w:=w2) (a:=⟨R0,0,none⟩) (hg.block R0 hR h2.fx.rr)];exact r2
  have hlt3:R0<w3.heap.size:=Ap.z0a c3;refine ⟨v',w3,hrun,?_,c3,f3,⟨?_,?_,cs++[vc],?_,?_⟩,hF,?_,hfx⟩
  · obtain ⟨_,a,c,hv,_⟩:=Ap.Rd.owned hown;exact ⟨a,c,hv⟩
  · have:(w3.setCell ⟨R0,0,none⟩ v').cell? ⟨R0,0,none⟩=some v':=by
      obtain ⟨o,ho⟩:∃ o,w3.heap[R0]?=some o:=⟨_,Array.getElem?_eq_getElem hlt3⟩
      simp only [World.cell?,ho] at c3
      cases o with
      | cells c e f=>
        simp only [Option.isSome_none,Bool.false_eq_true,if_false] at c3;have h0:0<c.size:=(Array.getElem?_eq_some_iff.1 c3).1;simp [World.cell?,heap_setCell,ho,h0]
      | _=>simp at c3
    exact this
  · obtain ⟨o,ho⟩:∃ o,w3.heap[R0]?=some o:=⟨_,Array.getElem?_eq_getElem hlt3⟩
    simp only [World.frozen?,ho] at f3
    cases o with
    | cells c e f=>simpa [World.frozen?,heap_setCell,ho] using f3
    | _=>simp [World.frozen?,heap_setCell,ho]
  · rw [List.length_append];obtain ⟨hl,⟨_,h0⟩ | ⟨g,cap,cur,hv,hb,hgg,hr⟩⟩:=hown
    · omega
    · refine ⟨hl,.inr ⟨g,cap,cur,hv,hb,?_,hr⟩⟩;rw [heap_setCell,if_neg (fun e=>hfx.rr (by rw [hv,e]; rfl))];exact hgg
  · refine RwO.snoc ?_ (rwo_fr hFs (rwo_fr hF3 r4));refine hFs.rdoB (hF3.rdoB (Ap.RdO.imp (Ap.RdO.fresh hoc) fun b _ hb=>⟨Nat.le_trans h.bs hb,h.fresh hb⟩))
  · refine Dn.block (w:=w2) h2.dn ?_;rw [heap_setCell,if_neg h.fx.rd];exact hg.block D hD h2.fx.dr
theorem heads_ab {A B:List ByteArray} {k:Nat} {left:List Rst} (h:∀ q∈left,Suf A B k q) {x:ByteArray} (hx:x∈heads left):x∈A++B:=by
  obtain ⟨q,hq,hx⟩:=List.mem_flatMap.1 hx;obtain ⟨h1,h2,_⟩:=h q hq
  rcases List.mem_append.1 hx with hx | hx
  · exact List.mem_append_left _ (h1.subset (List.mem_of_mem_take hx))
  · exact List.mem_append_right _ (h2.subset (List.mem_of_mem_take hx))
theorem up_nodup {l:List ByteArray} (h:UpS l):l.Nodup:=List.Pairwise.imp (fun {x y} hxy e=>by rw [e,z4t] at hxy; cases hxy) h
theorem x7z (base D L0 M0 R0 n k:Nat) (A B:List ByteArray) (hab:A.length+B.length=n) (ih:∀ j,j<k→Mx1 base D L0 M0 R0 n j A B):Mx1 base D L0 M0 R0 n k A B:=by
  intro w rv lv m dl left acc hm hin hal;subst hm;have IH:=Lib.hid ih;have HI:=Lib.hid hin;obtain ⟨al,cl,rfl⟩:=hin.slice;clear ih;have hn9:=hin.n9
  go_enter Tryz.func228,Tryz.ntmps228
  clear hin;go_wp2_with fail
  go_loopw [0,1] (fun dv lv' wr=>LoopR base D L0 M0 R0 n k A B w rv dl left acc dv lv' wr) (fun dv _ _=>n-lenV dv)
  case atStart=>exact ⟨k,dl,left,rv,acc,rfl,HI.out,Nat.le_refl _,Fr.refl _ _ _ _,⟨[],by simp⟩,Nat.le_refl _,fun L' h=>⟨L',h,rfl⟩⟩
  case round=>
    obtain ⟨k',dl',left',rv',acc',rfl,hi,hkk,hfr,hpre,hac,hcont⟩:=hrel;have I:=Lib.hid hi;have HF:=Lib.hid hfr;have HP:=Lib.hid hpre;have HC:=Lib.hid hcont;have eL:=hi.env.1;have hln:=hi.len;obtain ⟨al',cl',rfl⟩:=hi.slice;clear hi hfr hpre hcont
    cases k' with
    | zero=>
      have hd0:dl'.length=n:=by omega
      have hal':acc'.length≤1000000000:=by omega
      have CL:=Lib.hid (z5j (.slice (some ⟨D,0,none⟩) dl'.length n) dl'.length (dl'.map .string) wr.drew (I.out.dn.strs.below (Below.refl _ _).drew) (z5b _) (by omega));have TD:=Lib.hid (fun w2 vc (hb2:Below wr.heap.size wr w2) hoc=>told (vc:=vc) I.out hb2 hoc hal');have r0:=I.out.acc.1;have hR:R0<wr.heap.size:=Ap.z0a r0;obtain ⟨_,ar,cr,hrv,-⟩:=id (Ap.Rd.owned I.out.acc.2.2.choose_spec.1);obtain ⟨na,hna⟩:∃ na,acc'.length=na:=⟨_,rfl⟩
      rw [hna] at hrv;subst hrv;rw [hna] at TD;have HNA:=Lib.hid hna;have hge:n≤dl'.length:=by omega
      have HD0:=Lib.hid hd0;clear hna hd0 hln;go_wp2_with fail
      go_region_law (first
        | (refine Ap.z0m (by rfl) _ _ _ _ rfl _ _ rfl rfl _ w3 RT.out ?_)
        | (go_simp
           go_at_call 107
           (with_reducible refine CL.out.mono ?_)
           rintro e w2 ⟨vc,rfl,hoc,hb2⟩;have hB:Below wr.heap.size wr w2:=(Below.refl _ _).drew.trans hb2;obtain ⟨v',w3,t1,⟨a3,c3,rfl⟩,t3,t4,t5,t6,t7,t8⟩:=TD.out w2 vc hB hoc;have q1:w2.cell? ⟨R0,0,none⟩=some (.slice ar na cr):=by rw [hB.cell (p:=⟨R0,0,none⟩) hR]; exact r0
           have hR2:R0<w2.heap.size:=Ap.z0a q1;obtain ⟨_,ac,cc,rfl,-⟩:=id (Ap.Rd.owned hoc);have RT:=Lib.hid t1;have T5:=Lib.hid t5;have T6:=Lib.hid t6;have T7:=Lib.hid t7;have T8:=Lib.hid t8;clear t1 t5 t6 t7 t8 hoc hb2 hB)
        | fail)
      all_goals (
        go_end0;obtain ⟨L,g1,g2⟩:=HC.out [[]] (x9k I.out.good I.out.ne);refine ⟨rfl,_,L,g1,?_,?_,HF.out.trans T6.out,T8.out,?_⟩
        · rw [g2]
          simpa using T5.out
        · obtain ⟨t,ht⟩:=HP.out;have:=T7.out;rw [ht] at this;exact this.take
        · have h1:=congrArg List.length g2;have h2:=HNA.out;simp only [List.length_append,List.length_map,List.length_cons,List.length_nil] at h1;simp only [Nat.pow_zero] at hac;omega)
    | succ j=>
      have hd1:dl'.length<n:=by omega
      have FT:=Lib.hid (x3w (.slice al' left'.length cl') left' wr (I.out.rs.imp fun _ _ _=>trivial) I.out.few_len (fun q hq=>by have:=(I.out.suf q hq).2.2; omega));go_wp2_with fail;refine FT.out.mono ?_;rintro e w1 ⟨vn,nx,rfl,hon,hup,hmem,hb1⟩
      have hne:nx≠[]:=by
        intro h0;have:=heads_ne I.out.good I.out.ne;obtain ⟨x,l,hx⟩:=List.exists_cons_of_ne_nil this;have h1:x∈nx:=(hmem x).2 (by rw [hx]; simp);rw [h0] at h1
        cases h1
      obtain ⟨p,hp⟩:∃ p,nx.length=p+1:=by
        cases nx with
        | nil=>exact absurd rfl hne
        | cons y l=>exact ⟨l.length,rfl⟩
      have hp9:p+1≤9:=by
        have h1:=y5i nx (A++B) (up_nodup hup) fun x hx=>heads_ab I.out.suf ((hmem x).1 hx)
        rw [List.length_append] at h1;omega
      have hpl:p≤1000000000000:=by omega
      have RN:=Lib.hid (Ap.RdO.fresh hon);rw [hp] at hon;obtain ⟨_,an,cn,rfl,hcn,_,hcell⟩:=Ap.Rd.owned hon;obtain ⟨G,o,rfl,_⟩:=hcell (by omega);have I1:=Lib.hid (I.out.below hb1);have F1:=Lib.hid (HF.out.trans (Fr.below (D:=D) (R0:=R0) (rv:=rv') hb1));have UP:=Lib.hid hup;have MM:=Lib.hid hmem;have HPP:=Lib.hid hp;clear hup hmem hb1 hon hcell hp hne FT
      have RO:Hid (Ap.RdO (Ok D R0 rv') w1 1 (.slice (some ⟨G,o,none⟩) (p+1) cn) (p+1) (nx.map .string)):=Lib.hid (by
        have:=RN.out;rw [HPP.out] at this;exact this.imp fun b _ hb=>I.out.fresh hb)
      clear RN;go_wp2_with fail
      go_loopw [24] (fun iv wr2=>∃ (i:Nat) (M:List (List ByteArray)) (rv2:Value),i≤p∧iv=.int .i64 (i:Int)∧Goods j left' (nx.take i) M∧M.length≤i*9 ^ j∧In base D L0 M0 R0 n (j+1) A B wr2 rv2 (.slice al' left'.length cl') dl' left' (acc'++M.map (dl'++·))∧Fr D R0 w1 wr2 rv' rv2) (fun iv _=>p-(intOf iv).toNat)
      case atStart=>exact ⟨0,[],rv',Nat.zero_le _,rfl,rfl,by simp,by simpa using I1.out,Fr.refl _ _ _ _⟩
      case round=>
        obtain ⟨i,M,rv2,hip,rfl,hgs,hml,hi2,hf2⟩:=hrel;have hmb:(i+1)*9 ^ j≤9*9 ^ j:=Nat.mul_le_mul_right _ (by omega)
        have hacb:acc'.length+M.length+9 ^ j≤acc.length+9 ^ k:=by
          have h1:(i+1)*9 ^ j=i*9 ^ j+9 ^ j:=by rw [Nat.succ_mul]
          have h2:(9:Nat) ^ (j+1)=9*9 ^ j:=by rw [Nat.pow_succ,Nat.mul_comm]
          rw [h2] at hac;omega
        have HAC:=Lib.hid hac;have HML:=Lib.hid hml;have HACB:=Lib.hid hacb;clear hacb hmb hml hac;have I2:=Lib.hid hi2;have F2:=Lib.hid hf2;have GS:=Lib.hid hgs;have RO2:=hf2.rdo RO.out
        have CX:Hid (∀ i (h:i<nx.length),wr.cell? ⟨G,o+i,none⟩=some (.string nx[i])):=Lib.hid fun i h=>by
          obtain ⟨_,a0,c0,hv,_,_,hcell⟩:=RO2;obtain ⟨b0,o0,ha,_,_,hj⟩:=hcell (by omega)
          cases hv
          cases ha
          exact hj i _ (by simp [h])
        have OKG:Hid (Ok D R0 rv2 G):=Lib.hid (by
          obtain ⟨_,a0,c0,hv,_,_,hcell⟩:=RO2;obtain ⟨b0,o0,ha,hok,_,hj⟩:=hcell (by omega)
          cases hv
          cases ha
          exact hok)
        clear hi2 hf2 hgs RO2
        by_cases hlt:i<p
        · have hil:i<nx.length:=by rw [HPP.out]; omega
          have cx:=CX.out i hil;have XM:=Lib.hid ((MM.out _).1 (List.getElem_mem hil));have TK:=Lib.hid (List.take_succ_eq_append_getElem hil);obtain ⟨x,hx⟩:∃ x,nx[i]=x:=⟨_,rfl⟩
          rw [hx] at cx XM TK;clear hx;have dn2:=I2.out.dn;have hD2:=dn2.lt;have GX:=Lib.hid (gb_box wr (.cells #[.string x] 9) (some D));obtain ⟨wA,hrA,hdA,hgA,_⟩:=I2.out.runG GX.out (z8f dn2 (.cells #[.string x] 9)) hd1 (x:=x) (g:=wr.heap.size) (by simp);have RA:=Lib.hid hrA;have DA:=Lib.hid hdA;have GA:=Lib.hid hgA;have BA:=Lib.hid (I2.out.beh hgA x);have BB:=Lib.hid (I2.out.beh GX.out x);have BC:=Lib.hid (I2.out.beh (z0u wr (some D)) x);clear hrA hdA hgA dn2
          have IHJ:Hid (∀ (wX:World) (lvX:Value) (lX:List Rst),In base D L0 M0 R0 n j A B wX rv2 lvX (dl'++[x]) lX (acc'++M.map (dl'++·))→Calls Tryz.prog 228 #[.slice (some ⟨D,0,none⟩) (dl'.length+1) n,lvX,.pointer (some ⟨L0,0,none⟩),.pointer (some ⟨M0,0,none⟩),.pointer (some ⟨R0,0,none⟩)] wX fun e w'=>e=.returned (.tuple #[])∧OutB base D L0 M0 R0 n j lX wX rv2 (dl'++[x]) (acc'++M.map (dl'++·)) w'):=
            Lib.hid fun wX lvX lX hX=>IH.out j (by omega) wX rv2 lvX (dl'.length+1) (dl'++[x]) lX _ (by simp) hX (by have:=HACB.out; simp only [List.length_append,List.length_map]; omega)
          have e0:=I2.out.env.2;have eX:(wr.alloc (.cells #[.string x] 9)).drew.cell? ⟨M0,0,none⟩=some (.func (.func 228) #[] #[.pointer (some ⟨L0,0,none⟩),.pointer (some ⟨M0,0,none⟩),.pointer (some ⟨R0,0,none⟩)]):=(Fr.gbD (R0:=R0) (rv:=rv2) GX.out).cell e0 I2.out.fx.lm.2;have eA:wA.cell? ⟨M0,0,none⟩=some (.func (.func 228) #[] #[.pointer (some ⟨L0,0,none⟩),.pointer (some ⟨M0,0,none⟩),.pointer (some ⟨R0,0,none⟩)]):=(Fr.gbD (R0:=R0) (rv:=rv2) GA.out).cell e0 I2.out.fx.lm.2;go_wp2_with fail
          go_region_held3 (fun w'=>w'.cell? ⟨M0,0,none⟩=some (.func (.func 228) #[] #[.pointer (some ⟨L0,0,none⟩),.pointer (some ⟨M0,0,none⟩),.pointer (some ⟨R0,0,none⟩)])) (first | exact e0 | exact eX | exact eA | exact eF | exact eB | exact eC | exact eC2 | exact eZ | fail) (first
            | (go_at_call 230
               (with_reducible refine BA.out.mono ?_)
               rintro e wf ⟨vl,l',rfl,h1,h2,h3,h4⟩;have hgf:=z0c GA.out (z0r h4);have rdy:=I2.out.gbD XM.out hgf (DA.out.block (h4.block D DA.out.lt)) h1 h2 h3;have RDY:=Lib.hid rdy;have GF:=Lib.hid hgf;have RM:=Lib.hid h2;have eF:=rdy.env.2;obtain ⟨a5,c5,rfl⟩:=rdy.slice;clear h1 h2 h3 h4 hgf rdy)
            | (go_at_call 230
               (with_reducible refine BB.out.mono ?_)
               rintro e wb ⟨vl,l',rfl,h1,h2,h3,h4⟩;have hgb:=z0c GX.out (z0r h4);have hxb:wb.cell? ⟨wr.heap.size,0,none⟩=some (.string x):=by rw [h4.cell (p:=⟨wr.heap.size,0,none⟩) (by simp)]; simp
               obtain ⟨wf,hrB,hdB,hgB,hgB'⟩:=I2.out.runG hgb (Dn.block I2.out.dn ((h4.block D (by simp; omega)).trans (((Below.refl _ _).alloc (Nat.le_refl _) (.cells #[.string x] 9)).block D hD2))) hd1 hxb;have RB:=Lib.hid hrB;have rdy:=I2.out.gbD XM.out hgB hdB (rss_gbD h1 hD2 hgB') h2 h3;have RDY:=Lib.hid rdy;have GF:=Lib.hid hgB;have RM:=Lib.hid h2;have eF:=rdy.env.2;have eB:wb.cell? ⟨M0,0,none⟩=some (.func (.func 228) #[] #[.pointer (some ⟨L0,0,none⟩),.pointer (some ⟨M0,0,none⟩),.pointer (some ⟨R0,0,none⟩)]):=(Fr.gbD (R0:=R0) (rv:=rv2) hgb).cell e0 I2.out.fx.lm.2;obtain ⟨a5,c5,rfl⟩:=rdy.slice;clear h1 h2 h3 h4 hgb hgB hgB' hdB hrB rdy)
            | (go_at_call 230
               (with_reducible refine BC.out.mono ?_)
               rintro e wc ⟨vl,l',rfl,h1,h2,h3,h4⟩;have hgc:=z0c (z0u wr (some D)) (z0r h4);have hdc:Dn wc D n dl':=Dn.block I2.out.dn (h4.block D hD2);obtain ⟨wf,hrC,hdC,hgC,hgC'⟩:=I2.out.runG (z8e hgc (.cells #[.string x] 9)) (z8f hdc (.cells #[.string x] 9)) hd1 (x:=x) (g:=wc.heap.size) (by simp);have RC:=Lib.hid hrC;have rdy:=I2.out.gbD XM.out hgC hdC (rss_gbD h1 hD2 (z0c (z0r ((Below.refl _ _).alloc (Nat.le_refl _) (.cells #[.string x] 9))) hgC')) h2 h3;have RDY:=Lib.hid rdy;have GF:=Lib.hid hgC;have RM:=Lib.hid h2;have eF:=rdy.env.2;have eC:wc.cell? ⟨M0,0,none⟩=some (.func (.func 228) #[] #[.pointer (some ⟨L0,0,none⟩),.pointer (some ⟨M0,0,none⟩),.pointer (some ⟨R0,0,none⟩)]):=(Fr.gbD (R0:=R0) (rv:=rv2) hgc).cell e0 I2.out.fx.lm.2;have eC2:(wc.alloc (.cells #[.string x] 9)).cell? ⟨M0,0,none⟩=some (.func (.func 228) #[] #[.pointer (some ⟨L0,0,none⟩),.pointer (some ⟨M0,0,none⟩),.pointer (some ⟨R0,0,none⟩)]):=(Fr.gbD (R0:=R0) (rv:=rv2) (z8e hgc (.cells #[.string x] 9))).cell e0 I2.out.fx.lm.2;obtain ⟨a5,c5,rfl⟩:=rdy.slice;clear h1 h2 h3 h4 hgc hgC hgC' hdC hrC rdy hdc)
            | (refine Ap.z0m (by rfl) _ _ _ _ rfl _ _ rfl rfl _ wA RA.out ?_)
            | (refine Ap.z0m (by rfl) _ _ _ _ rfl _ _ rfl rfl _ wf RB.out ?_)
            | (refine Ap.z0m (by rfl) _ _ _ _ rfl _ _ rfl rfl _ wf RC.out ?_)
            | (go_at_call 228
               (with_reducible refine (IHJ.out _ _ _ RDY.out).mono ?_)
               rintro e wz ⟨rfl,rvz,Lz,z1,z2,z3,z4,z5,z6⟩;have LZ:=Lib.hid z6;have bk:=I2.out.back GF.out z4 z2 z3.take z5;have eZ:=bk.env.2;have BK:=Lib.hid bk;have FZ:=Lib.hid ((Fr.gbD (rv:=rv2) GF.out).trans z4);have GZ:=Lib.hid (y1q RM.out z1);clear z1 z2 z3 z4 z5 z6 bk)
            | fail)
          all_goals go_wp2_with fail
          all_goals go_roundw
          all_goals first
            | (refine ⟨i+1,M++Lz.map (x::·),rvz,by omega,by go_num,?_,?_,?_,F2.out.trans FZ.out⟩
               · rw [TK.out]; exact z7e GZ.out GS.out
               · have h1:=HML.out;have h2:=LZ.out;rw [List.length_append,List.length_map,Nat.succ_mul];omega
               · have:=BK.out
                 simpa [List.append_assoc,Function.comp_def] using this)
            | (simp [intOf]; omega)
        · obtain rfl:i=p:=by omega
          have hil:i<nx.length:=by rw [HPP.out]; omega
          have cx:=CX.out i hil;have XM:=Lib.hid ((MM.out _).1 (List.getElem_mem hil));have TK:=Lib.hid (List.take_succ_eq_append_getElem hil);obtain ⟨x,hx⟩:∃ x,nx[i]=x:=⟨_,rfl⟩
          rw [hx] at cx XM TK;clear hx;have dn2:=I2.out.dn;have hD2:=dn2.lt;have GX:=Lib.hid (gb_box wr (.cells #[.string x] 9) (some D));obtain ⟨wA,hrA,hdA,hgA,_⟩:=I2.out.runG GX.out (z8f dn2 (.cells #[.string x] 9)) hd1 (x:=x) (g:=wr.heap.size) (by simp);have RA:=Lib.hid hrA;have DA:=Lib.hid hdA;have GA:=Lib.hid hgA;have BA:=Lib.hid (I2.out.beh hgA x);have BB:=Lib.hid (I2.out.beh GX.out x);have BC:=Lib.hid (I2.out.beh (z0u wr (some D)) x);clear hrA hdA hgA dn2;have e0:wr.cell? ⟨G,o+i,none⟩=some (.string x):=cx;have eX:(wr.alloc (.cells #[.string x] 9)).drew.cell? ⟨G,o+i,none⟩=some (.string x):=(Fr.gbD (R0:=R0) (rv:=rv2) GX.out).cell e0 OKG.out;have eA:wA.cell? ⟨G,o+i,none⟩=some (.string x):=(Fr.gbD (R0:=R0) (rv:=rv2) GA.out).cell e0 OKG.out;go_wp2_with fail;obtain ⟨pl,hpl⟩:∃ pl,i+1=pl:=⟨_,rfl⟩
          rw [hpl];have hipl:i<pl:=by omega
          clear hpl
          go_region_held3 (fun w'=>w'.cell? ⟨G,o+i,none⟩=some (.string x)) (first | exact e0 | exact eX | exact eA | exact eF | exact eB | exact eC | exact eC2 | fail) (first
            | (go_at_call 230
               (with_reducible refine BA.out.mono ?_)
               rintro e wf ⟨vl,l',rfl,h1,h2,h3,h4⟩;have hgf:=z0c GA.out (z0r h4);have rdy:=I2.out.gbD XM.out hgf (DA.out.block (h4.block D DA.out.lt)) h1 h2 h3;have RDY:=Lib.hid rdy;have GF:=Lib.hid hgf;have RM:=Lib.hid h2;have eF:wf.cell? ⟨G,o+i,none⟩=some (.string x):=(Fr.gbD (R0:=R0) (rv:=rv2) hgf).cell e0 OKG.out;obtain ⟨a5,c5,rfl⟩:=rdy.slice;clear h1 h2 h3 h4 hgf rdy)
            | (go_at_call 230
               (with_reducible refine BB.out.mono ?_)
               rintro e wb ⟨vl,l',rfl,h1,h2,h3,h4⟩;have hgb:=z0c GX.out (z0r h4);have hxb:wb.cell? ⟨wr.heap.size,0,none⟩=some (.string x):=by rw [h4.cell (p:=⟨wr.heap.size,0,none⟩) (by simp)]; simp
               obtain ⟨wf,hrB,hdB,hgB,hgB'⟩:=I2.out.runG hgb (Dn.block I2.out.dn ((h4.block D (by simp; omega)).trans (((Below.refl _ _).alloc (Nat.le_refl _) (.cells #[.string x] 9)).block D hD2))) hd1 hxb;have RB:=Lib.hid hrB;have rdy:=I2.out.gbD XM.out hgB hdB (rss_gbD h1 hD2 hgB') h2 h3;have RDY:=Lib.hid rdy;have GF:=Lib.hid hgB;have RM:=Lib.hid h2;have eF:wf.cell? ⟨G,o+i,none⟩=some (.string x):=(Fr.gbD (R0:=R0) (rv:=rv2) hgB).cell e0 OKG.out;have eB:wb.cell? ⟨G,o+i,none⟩=some (.string x):=(Fr.gbD (R0:=R0) (rv:=rv2) hgb).cell e0 OKG.out;obtain ⟨a5,c5,rfl⟩:=rdy.slice;clear h1 h2 h3 h4 hgb hgB hgB' hdB hrB rdy)
            | (go_at_call 230
               (with_reducible refine BC.out.mono ?_)
               rintro e wc ⟨vl,l',rfl,h1,h2,h3,h4⟩;have hgc:=z0c (z0u wr (some D)) (z0r h4);have hdc:Dn wc D n dl':=Dn.block I2.out.dn (h4.block D hD2);obtain ⟨wf,hrC,hdC,hgC,hgC'⟩:=I2.out.runG (z8e hgc (.cells #[.string x] 9)) (z8f hdc (.cells #[.string x] 9)) hd1 (x:=x) (g:=wc.heap.size) (by simp);have RC:=Lib.hid hrC;have rdy:=I2.out.gbD XM.out hgC hdC (rss_gbD h1 hD2 (z0c (z0r ((Below.refl _ _).alloc (Nat.le_refl _) (.cells #[.string x] 9))) hgC')) h2 h3;have RDY:=Lib.hid rdy;have GF:=Lib.hid hgC;have RM:=Lib.hid h2;have eF:wf.cell? ⟨G,o+i,none⟩=some (.string x):=(Fr.gbD (R0:=R0) (rv:=rv2) hgC).cell e0 OKG.out;have eC:wc.cell? ⟨G,o+i,none⟩=some (.string x):=(Fr.gbD (R0:=R0) (rv:=rv2) hgc).cell e0 OKG.out;have eC2:(wc.alloc (.cells #[.string x] 9)).cell? ⟨G,o+i,none⟩=some (.string x):=(Fr.gbD (R0:=R0) (rv:=rv2) (z8e hgc (.cells #[.string x] 9))).cell e0 OKG.out;obtain ⟨a5,c5,rfl⟩:=rdy.slice;clear h1 h2 h3 h4 hgc hgC hgC' hdC hrC rdy hdc)
            | (refine Ap.z0m (by rfl) _ _ _ _ rfl _ _ rfl rfl _ wA RA.out ?_)
            | (refine Ap.z0m (by rfl) _ _ _ _ rfl _ _ rfl rfl _ wf RB.out ?_)
            | (refine Ap.z0m (by rfl) _ _ _ _ rfl _ _ rfl rfl _ wf RC.out ?_)
            | fail)
          all_goals go_wp2_with fail
          all_goals go_roundw
          all_goals first
            | (refine ⟨j,dl'++[x],l',rv2,acc'++M.map (dl'++·),by simp,RDY.out,by omega,(F1.out.trans F2.out).trans (Fr.gbD GF.out),?_,by have:=HACB.out; simp only [List.length_append,List.length_map]; omega,fun L' hL'=>?_⟩
               · obtain ⟨t,ht⟩:=HP.out;exact ⟨t++[x],by rw [ht,List.append_assoc]⟩
               · have hnx:nx=nx.take i++[x]:=by rw [← TK.out,List.take_of_length_le (by rw [HPP.out]; exact Nat.le_refl _)]
                 have hg:=x9l I2.out.good UP.out MM.out (by rw [hnx]; exact z7e (y1q RM.out hL') GS.out);obtain ⟨L,h1,h2⟩:=HC.out _ hg;exact ⟨L,h1,by rw [h2]; simp [List.append_assoc,Function.comp_def]⟩)
            | (simp [lenV]; omega)
theorem mix1_any (base D L0 M0 R0 n:Nat) (A B:List ByteArray) (hab:A.length+B.length=n) (k:Nat):Mx1 base D L0 M0 R0 n k A B:=by
  induction k using Nat.strongRecOn with
  | ind k ih=>exact x7z base D L0 M0 R0 n k A B hab ih
end Tr
end Go.Proofs.YtaapnkoooofalaaGreat
namespace Go.Proofs.YtaapnkoooofalaaGreat.Tr
open Go Go.RowKit
set_option maxRecDepth 20000
theorem in_start {w wS:World} {D Lb:Nat} {x y:Value} {a b:List ByteArray} (hx:Strs w x a) (hy:Strs w y b) (h9:a.length+b.length≤9) (hS:Below w.heap.size w wS)
    (cL:wS.cell? ⟨w.heap.size,0,none⟩=some (.int .i64 ((a.length+b.length:Nat):Int))) (cR:wS.cell? ⟨w.heap.size+1,0,none⟩=some (.slice none 0 0)) (fR:wS.frozen? ⟨w.heap.size+1,0,none⟩=false)
    (cM:wS.cell? ⟨w.heap.size+1+1,0,none⟩=some (.func (.func 228) #[] #[.pointer (some ⟨w.heap.size,0,none⟩),.pointer (some ⟨w.heap.size+1+1,0,none⟩),.pointer (some ⟨w.heap.size+1,0,none⟩)]))
    (hD:∃ cur:Array Value,wS.heap[D]?=some (.cells cur 9 (0,0))∧cur.size=a.length+b.length) (hD3:w.heap.size+2<D)
    (l0:wS.cell? ⟨Lb,0,none⟩=some x) (l1:wS.cell? ⟨Lb,1,none⟩=some y) (hL3:w.heap.size+2<Lb) (hLD:Lb≠D) :
    In w.heap.size D w.heap.size (w.heap.size+1+1) (w.heap.size+1) (a.length+b.length) (a.length+b.length) a b wS (.slice none 0 0) (.slice (some ⟨Lb,0,none⟩) 1 1) [] [(a,b)] []:=by
  have hno:∀ b:Nat,some b≠(Value.slice none 0 0).ownBlock:=fun b e=>by cases e
  have hOk:∀ v l,Strs w v l→StrsO (Ok D (w.heap.size+1) (.slice none 0 0)) wS v l:=fun v l h=>Ap.RdO.below (Ap.RdO.imp (Ap.RdO.of (by omega) h) fun b hb _=>⟨by omega,by omega,hno b⟩) hS
  obtain ⟨cur,hc1,hc2⟩:=hD;refine ⟨⟨cL,cM⟩,⟨cR,fR,[],⟨rfl,.inl ⟨rfl,rfl⟩⟩,trivial⟩,⟨cur,hc1,hc2,Nat.zero_le _,fun j hj=>by simp at hj⟩,⟨⟨⟨by omega,by omega,hno _⟩,⟨by omega,by omega,hno _⟩⟩,by omega,hno _,hno _,by omega,by omega⟩,?_,?_,by simp,?_,by simp,h9,hS.size⟩
  · refine ⟨[x,y],⟨rfl,_,1,rfl,Nat.le_refl _,fun h=>(by cases h),fun _=>⟨Lb,0,rfl,⟨by omega,hLD,hno _⟩,Ap.z0a l0,fun j u hu=>?_⟩⟩,hOk _ _ hx,hOk _ _ hy,trivial⟩
    match j,hu with
    | 0,hu=>simp at hu; subst hu; exact l0
    | 1,hu=>simp at hu; subst hu; exact l1
    | j+2,hu=>simp at hu
  · intro q hq;simp at hq;subst hq;exact ⟨List.suffix_refl _,List.suffix_refl _,rfl⟩
  · have:2 ^ (a.length+b.length)≤2 ^ 9:=Nat.pow_le_pow_right (by omega) h9;simp;omega
theorem size3 (w:World) (x y z:Obj):(((w.alloc x).alloc y).alloc z).heap.size=w.heap.size+1+1+1:=by simp
theorem below5 (w:World) (x y z u v:Obj):Below w.heap.size w (((((w.alloc x).alloc y).alloc z).alloc u).alloc v).drew:=((v1f w x y z u).alloc (by simp; omega) v).drew
theorem x9g (w:World) (x y z u v:Obj):(((((w.alloc x).alloc y).alloc z).alloc u).alloc v).drew.heap[w.heap.size+1+1+1]?=some u:=by
  show (((((w.alloc x).alloc y).alloc z).alloc u).alloc v).heap[w.heap.size+1+1+1]?=some u
  rw [Below.heap_alloc _ _ _ (by simp),← size3 w x y z];exact z6p _ _
theorem x9f (w:World) (x y z u v:Obj):(((((w.alloc x).alloc y).alloc z).alloc u).alloc v).drew.heap[w.heap.size+1+1+1+1]?=some v:=by
  show (((((w.alloc x).alloc y).alloc z).alloc u).alloc v).heap[w.heap.size+1+1+1+1]?=some v
  rw [show w.heap.size+1+1+1+1=((((w.alloc x).alloc y).alloc z).alloc u).heap.size by simp];exact z6p _ _
def RwsF (base:Nat) (w:World) (v:Value) (rs:List (List ByteArray)):Prop:=∃ cs,Ap.Rd w 1 v rs.length cs∧RwO (fun b=>base≤b) w cs rs
theorem RwsF.rws {base:Nat} {w:World} {v:Value} {rs:List (List ByteArray)} (h:RwsF base w v rs):Rws w v rs:=by
  obtain ⟨cs,h1,h2⟩:=h;exact ⟨cs,h1,h2.map fun _ _ h=>Ap.RdO.imp h fun _ _ _=>trivial⟩
def MixF (l:List (List ByteArray)) (w:World) (e:Ending) (w':World):Prop:=∃ v,e=.returned v∧RwsF w.heap.size w' v l∧Below w.heap.size w w'
theorem mix_told {w wS:World} {D L0 M0 R0 n:Nat} {a b:List ByteArray} {lv:Value} (hn:a.length+b.length=n) (hS:Below w.heap.size w wS) (h:In w.heap.size D L0 M0 R0 n n a b wS (.slice none 0 0) lv [] [(a,b)] []) (hR:w.heap.size≤R0) (hD:w.heap.size≤D) :
    Calls Tryz.prog 228 #[.slice (some ⟨D,0,none⟩) 0 n,lv,.pointer (some ⟨L0,0,none⟩),.pointer (some ⟨M0,0,none⟩),.pointer (some ⟨R0,0,none⟩)] wS fun e w'=>e=.returned (.tuple #[])∧∃ rv',w'.cell? ⟨R0,0,none⟩=some rv'∧RwsF w.heap.size w' rv' (mix a b)∧Below w.heap.size w w'∧Env L0 M0 R0 n w':=by
  have h9:9 ^ n≤9 ^ 9:=Nat.pow_le_pow_right (by omega) h.n9;have hn9:=h.n9;refine (mix1_any w.heap.size D L0 M0 R0 n a b hn n wS _ _ 0 [] [(a,b)] [] rfl h (by simp; omega)).mono ?_;rintro e w' ⟨rfl,rv',L,g1,⟨c1,_,cs,c2,c3⟩,_,g4,_⟩;refine ⟨rfl,rv',c1,?_,g4.bel hS hS.size hR hD (fun k hk=>by cases hk),h.env.fr h.fx g4⟩
  have e1:[]++L.map (([]:List ByteArray)++·)=mix a b:=by
    rw [← good_mix hn (by omega) g1];simp
  rw [e1] at c2 c3;exact ⟨cs,Ap.Rd.owned c2,c3.map fun _ _ h=>Ap.RdO.imp h fun _ _ h=>h.1⟩
theorem mixF_any (x y:Value) (a b:List ByteArray) (w:World) (hx:Strs w x a) (hy:Strs w y b) (h9:a.length+b.length≤9) :
    Calls Tryz.prog 207 #[x,y] w (MixF (mix a b) w):=by
  have HX:=Lib.hid hx;have HY:=Lib.hid hy;obtain ⟨_,ax,cx,rfl,-⟩:=hx;obtain ⟨_,ay,cy,rfl,-⟩:=hy;unfold MixF;obtain ⟨n,hn⟩:∃ n,a.length+b.length=n:=⟨_,rfl⟩
  have hcast:(a.length:Int)+(b.length:Int)=(n:Int):=by omega
  obtain ⟨MC,hMC,hmk⟩:∃ MC:Array Value,MC.size=n∧∀ W:World,Sem.run Tryz.prog (Instr.makeSlice 65 (.int .i64 0) (.int .i64 ((a.length:Int)+(b.length:Int)))) W=.ok (.slice (some ⟨W.heap.size,0,none⟩) 0 n) (W.alloc (.cells MC 9)):=by
    obtain ⟨i0,hi,hz,hs1,hb8⟩:=info_parts infoS;refine ⟨madeCells (Value.string ⟨#[]⟩).cells n,by simp [madeCells],fun W=>?_⟩;have hr:=run_make (P:=Tryz.prog) W 65 9 i0 _ Tryz.underlying65 hi hz .i64 .i64 0 (n:Int) (by omega) (by omega) (by rw [hb8]; omega) (by omega);rw [hcast];simp only [Int.toNat_natCast,hs1,Nat.mul_one] at hr;exact hr
  have HN:=Lib.hid hn;have HMC:=Lib.hid hMC;have HCA:=Lib.hid hcast;have B5:=Lib.hid (below5 w)
  have HA:Hid (∀ D Lb:Nat,∀ wS:World,Below w.heap.size w wS→wS.cell? ⟨w.heap.size,0,none⟩=some (.int .i64 ((a.length:Int)+(b.length:Int)))→wS.cell? ⟨w.heap.size+1,0,none⟩=some (.slice none 0 0)→wS.frozen? ⟨w.heap.size+1,0,none⟩=false→
      wS.cell? ⟨w.heap.size+1+1,0,none⟩=some (.func (.func 228) #[] #[.pointer (some ⟨w.heap.size,0,none⟩),.pointer (some ⟨w.heap.size+1+1,0,none⟩),.pointer (some ⟨w.heap.size+1,0,none⟩)])→wS.heap[D]?=some (.cells MC 9 (0,0))→w.heap.size+2<D→wS.cell? ⟨Lb,0,none⟩=some (.slice ax a.length cx)→wS.cell? ⟨Lb,1,none⟩=some (.slice ay b.length cy)→w.heap.size+2<Lb→Lb≠D→
      Calls Tryz.prog 228 #[.slice (some ⟨D,0,none⟩) 0 n,.slice (some ⟨Lb,0,none⟩) 1 1,.pointer (some ⟨w.heap.size,0,none⟩),.pointer (some ⟨w.heap.size+1+1,0,none⟩),.pointer (some ⟨w.heap.size+1,0,none⟩)] wS fun e w'=>e=.returned (.tuple #[])∧∃ rv',w'.cell? ⟨w.heap.size+1,0,none⟩=some rv'∧RwsF w.heap.size w' rv' (mix a b)∧Below w.heap.size w w'∧Env w.heap.size (w.heap.size+1+1) (w.heap.size+1) n w'):=Lib.hid fun D Lb wS hS cL cR fR cM hD hD3 l0 l1 hL3 hLD=>by
    have hin:=in_start (D:=D) (Lb:=Lb) HX.out HY.out h9 hS (by rw [cL,← HCA.out.symm]; exact congrArg some (congrArg _ (by omega))) cR fR cM ⟨MC,hD,by rw [HMC.out,HN.out]⟩ hD3 l0 l1 hL3 hLD;rw [HN.out] at hin;exact mix_told HN.out hS hin (by omega) (by omega)
  obtain ⟨ml,hml⟩:∃ ml,mix a b=ml:=⟨_,rfl⟩
  rw [hml] at HA ⊢;clear hml hn hMC hcast
  go_enter Tryz.func207,Tryz.ntmps207
  go_wp2_with fail
  go_region_held3 (fun w'=>w'.cell? ⟨w.heap.size,0,none⟩=some (.int .i64 ((a.length:Int)+(b.length:Int)))∧w'.cell? ⟨w.heap.size+1+1,0,none⟩=some (.func (.func 228) #[] #[.pointer (some ⟨w.heap.size,0,none⟩),.pointer (some ⟨w.heap.size+1+1,0,none⟩),.pointer (some ⟨w.heap.size+1,0,none⟩)])) (first | (simp [go_sem]; done) | exact kz | fail) (first
    | (go_at_call 228
       first
         | (with_reducible refine (HA.out (w.heap.size+1+1+1) (w.heap.size+1+1+1+1) _ (B5.out _ _ _ _ _) ?q1 ?q2 ?q3 ?q4 (x9g _ _ _ _ _ _) (by omega) ?q5 ?q6 (by omega) (by omega)).mono ?_)
         | (with_reducible refine (HA.out (w.heap.size+1+1+1+1) (w.heap.size+1+1+1) _ (B5.out _ _ _ _ _) ?q1 ?q2 ?q3 ?q4 (x9f _ _ _ _ _ _) (by omega) ?q5 ?q6 (by omega) (by omega)).mono ?_)
       case q1=>simp [go_sem]
       case q2=>simp [go_sem]
       case q3=>simp [go_sem]
       case q4=>simp [go_sem]
       case q5=>simp [go_sem]
       case q6=>simp [go_sem]
       rintro e wz ⟨rfl,rvz,z1,z2,z3,z4⟩;have kz:wz.cell? ⟨w.heap.size,0,none⟩=some (.int .i64 ((a.length:Int)+(b.length:Int)))∧wz.cell? ⟨w.heap.size+1+1,0,none⟩=some (.func (.func 228) #[] #[.pointer (some ⟨w.heap.size,0,none⟩),.pointer (some ⟨w.heap.size+1+1,0,none⟩),.pointer (some ⟨w.heap.size+1,0,none⟩)]):=⟨by rw [HCA.out]; exact z4.1,z4.2⟩
       have Z2:=Lib.hid z2;have Z3:=Lib.hid z3;clear z2 z3 z4)
    | fail)
  all_goals (
    obtain ⟨az,cz,rfl,_⟩:=Z2.out.rws.val;go_wp2_with fail;go_ret;exact ⟨_,rfl,Z2.out,Z3.out⟩)
end Go.Proofs.YtaapnkoooofalaaGreat.Tr
namespace Go.Proofs.YtaapnkoooofalaaGreat.Tr
open Go Go.RowKit
set_option maxRecDepth 20000
end Go.Proofs.YtaapnkoooofalaaGreat.Tr
namespace Go.Proofs.YtaapnkoooofalaaGreat
namespace Mn
open Go Go.RowKit Go.Sort Tr
theorem so_gb {ok:Nat→Prop} {w w':World} {g:Nat} {v:Value} {l:List ByteArray} (h:StrsO (fun b=>ok b∧b≠g) w v l) (hg:w.grownBy w' (some g)):StrsO (fun b=>ok b∧b≠g) w' v l:=by
  obtain ⟨hl,a,cap,hv,hc,hn,hcell⟩:=h;refine ⟨hl,a,cap,hv,hc,hn,fun h0=>?_⟩;obtain ⟨b,off,ha,hne,hlt,hj⟩:=hcell h0;refine ⟨b,off,ha,hne,Nat.lt_of_lt_of_le hlt hg.size,fun i u hu=>?_⟩;rw [World.cell?_of_block (w:=w) (a:=⟨b,off+i,none⟩) (hg.block b hlt fun e=>hne.2 (by cases e; rfl))];exact hj i u hu
theorem so_own {w:World} {base:Nat} {v:Value} {l:List ByteArray} (h:w.ownsRow base 9 1 v l.length (l.map .string)):StrsO (fun b=>base≤b) w v l:=Ap.RdO.fresh h
theorem x7g (v:Value) (p:Tr) (w:World) (hv:Strs w v p.a) (hl:p.a.length≤1000000) :
    Calls Tryz.prog 161 #[.agg #[v,.int .i64 p.e]] w fun e w'=>∃ a c,e=.returned (.agg #[.slice a p.a.length c,.int .i64 p.e])∧StrsO (fun b=>w.heap.size≤b) w' (.slice a p.a.length c) p.a∧Below w.heap.size w w':=by
  have CL:=Lib.hid (fun w1 (hb:Below w.heap.size w w1)=>z5j v p.a.length (p.a.map .string) w1 (hv.below hb) (z5b _) (by omega));have HB:=Lib.hid (fun o o'=>(bel2 w o o').drew);obtain ⟨_,a1,c1,rfl,-⟩:=hv
  go_enter Tryz.func161,Tryz.ntmps161
  go_wp2_with fail
  go_region_held3 (fun w'=>w'.cell? ⟨w.heap.size,0,none⟩=some (.slice a1 p.a.length c1)∧w'.cell? ⟨w.heap.size,1,none⟩=some (.int .i64 p.e)) (first | (simp [go_sem]; done) | exact kz | exact ks _ _ | fail) (first
    | (go_at_call 107
       (with_reducible refine (CL.out _ (HB.out _ _)).mono ?_)
       rintro e w1 ⟨v1,rfl,hown,hb1⟩;have kz:w1.cell? ⟨w.heap.size,0,none⟩=some (.slice a1 p.a.length c1)∧w1.cell? ⟨w.heap.size,1,none⟩=some (.int .i64 p.e):=BoxT.below ⟨by simp [go_sem],by simp [go_sem]⟩ hb1;have k0:∃ u,w1.cell? ⟨w.heap.size+1,0,none⟩=some u:=⟨.slice none 0 0,by rw [hb1.cell (p:=⟨w.heap.size+1,0,none⟩) (by first | (simp; done) | (simp; omega))]; simp [go_sem]⟩
       have k1:∃ u,w1.cell? ⟨w.heap.size+1,1,none⟩=some u:=⟨.int .i64 0,by rw [hb1.cell (p:=⟨w.heap.size+1,1,none⟩) (by first | (simp; done) | (simp; omega))]; simp [go_sem]⟩
       obtain ⟨u0,k0⟩:=k0;obtain ⟨u1,k1⟩:=k1;have f0:w1.frozen? ⟨w.heap.size+1,0,none⟩=false:=by rw [hb1.frozen (p:=⟨w.heap.size+1,0,none⟩) (by first | (simp; done) | (simp; omega))]; simp [go_sem]
       have f1:w1.frozen? ⟨w.heap.size+1,1,none⟩=false:=by rw [hb1.frozen (p:=⟨w.heap.size+1,1,none⟩) (by first | (simp; done) | (simp; omega))]; simp [go_sem]
       have B1:=Lib.hid ((HB.out _ _).trans (hb1.mono (HB.out _ _).size));obtain ⟨_,a2,c2,rfl,_⟩:=Ap.Rd.owned hown;have O1:Hid (StrsO (fun b=>w.heap.size≤b∧b≠w.heap.size+1) w1 (.slice a2 p.a.length c2) p.a):=Lib.hid (z0x (so_own hown) fun b _ h=>by simp at h; omega)
       have ks:∀ x y:Value,((w1.setCell ⟨w.heap.size+1,0,none⟩ x).setCell ⟨w.heap.size+1,1,none⟩ y).cell? ⟨w.heap.size,0,none⟩=some (.slice a1 p.a.length c1)∧((w1.setCell ⟨w.heap.size+1,0,none⟩ x).setCell ⟨w.heap.size+1,1,none⟩ y).cell? ⟨w.heap.size,1,none⟩=some (.int .i64 p.e):=fun x y=>by
         constructor
         · rw [World.cell?_of_block (w:=w1) (a:=⟨w.heap.size,0,none⟩) (by rw [heap_setCell,if_neg (by simp),heap_setCell,if_neg (by simp)])]; exact kz.1
         · rw [World.cell?_of_block (w:=w1) (a:=⟨w.heap.size,1,none⟩) (by rw [heap_setCell,if_neg (by simp),heap_setCell,if_neg (by simp)])]; exact kz.2
       clear hown hb1)
    | fail)
  go_wp2_with fail;refine bodyPost_ret (v:=.agg #[.slice a2 p.a.length c2,.int .i64 p.e]) (by simp [results,Tryz.results161,go_sem,k0,k1]) rfl ⟨_,_,rfl,?_,?_⟩
  · exact z0x (so_gb O1.out (z0c (z0n _ _ _ _) (z0n _ _ _ _))) fun _ _ h=>h.1
  · exact (B1.out.setCell (by show w.heap.size≤w.heap.size+1; omega) _).setCell (by show w.heap.size≤w.heap.size+1; omega) _
end Mn
end Go.Proofs.YtaapnkoooofalaaGreat
