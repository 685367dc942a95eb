/- The program's names: isName. The document's Same over rows of nodes. The document's Put: the walk. The program's Count: slices.Index and slices.Contains over whole numbers. The document's merge of two rows of traces: the walk. Trees, their kids; what the walks of sorts need. The program's Size and Depth: the walk of measure. -/
import Derived.Test.YtaapnkoooofalaaGreatQ04
import Derived.Test.YtaapnkoooofalaaGreatQ05
import Derived.Laws.RangeAny
import Derived.Deep.QuietTactic
import Derived.BigQuiet

namespace Go.Proofs.YtaapnkoooofalaaGreat.Rx
open Go Go.RowKit Rw
set_option maxRecDepth 20000
def nm (n:ByteArray):Bool:=low n.data.toList && (decide (1≤n.size) && decide (n.size≤8)) && !wordB n
set_option maxHeartbeats 1000000 in
theorem name_other (s:ByteArray) (w:World) (h:wordB s=false) (h0:s.size≠0) (hs:s.size≤140737488355328):Calls Tryz.prog 137 #[.string s] w fun e w'=>e=.returned (.bool (nm s))∧Below w.heap.size w w':=by
  have hb:¬ (s=w1∨s=w2∨s=w3∨s=w4∨s=w5∨s=w6):=by simpa [wordB] using h
  have e0:=not_empty h0
  have HN:Hid (nm s=(low s.data.toList && decide (s.size≤8))):=by
    show _=_
    unfold nm;rw [h,decide_eq_true (show 1≤s.size by omega)];simp
  clear h h0;simp only [not_or] at hb;obtain ⟨h1,h2,h3,h4,h5,h6⟩:=hb;have e1:=str_ne' (l:=[115,107,105,112]) h1;have e2:=str_ne' (l:=[116,104,114,111,119]) h2;have e3:=str_ne' (l:=[121,105,101,108,100]) h3;have e4:=str_ne' (l:=[115,107,105,112,112]) h4;have e5:=str_ne' (l:=[116,104,114,111,119,119]) h5;have e6:=str_ne' (l:=[121,105,101,108,100,100]) h6;clear h1 h2 h3 h4 h5 h6
  go_enter Tryz.func137,Tryz.ntmps137
  go_wp2_with fail
  go_loopw [] (fun wr=>∃ pos:Nat,pos≤s.size∧wr=w.iter s pos∧Hid (low (s.data.toList.take pos)=true)) (fun wr=>s.size - wr.iterPos w.heap.size)
  case atStart=>exact ⟨0,Nat.zero_le _,rfl,Lib.hid rfl⟩
  case round=>
    obtain ⟨pos,hp,rfl,HL⟩:=hrel
    by_cases hlt:pos < s.size
    · have HT:=Lib.hid (low_take s pos hlt);have HF:=Lib.hid (fun hb=>low_no hlt hb)
      by_cases ha:(s[pos]'hlt).toNat < 128
      · have hnx:∀ ty,(Instr.next (.pointer (some ⟨w.heap.size,0,none⟩)) true ty).run Tryz.prog (w.iter s pos)=_:=fun ty=>run_next_ascii w s pos ty hlt ha
        obtain ⟨c,hc⟩:∃ c,(s[pos]'hlt).toNat=c:=⟨_,rfl⟩
        have HC:=Lib.hid hc;rw [hc] at hnx ha;clear hc
        by_cases b1:c < 97
        · have d1:decide ((c:Int) < 97)=true:=by simp; omega
          go_wp2_with fail;go_ret;refine ⟨ret_bool ?_,(Below.refl _ _).alloc (Nat.le_refl _) _⟩;rw [HN.out,HF.out (by rw [HC.out]; simp; omega)]
          rfl
        · have d1:decide ((c:Int) < 97)=false:=by simp; omega
          by_cases b2:122 < c
          · have d2:decide (122 < (c:Int))=true:=by simp; omega
            go_wp2_with fail;go_ret;refine ⟨ret_bool ?_,(Below.refl _ _).alloc (Nat.le_refl _) _⟩;rw [HN.out,HF.out (by rw [HC.out]; simp; omega)]
            rfl
          · have d2:decide (122 < (c:Int))=false:=by simp; omega
            have HG:Hid (low (s.data.toList.take (pos+1))=true):=by
              show _=true
              rw [HT.out,HL.out,HC.out];simp;omega
            go_wp2_with fail
            go_roundw
            case rel=>exact ⟨pos+1,by omega,rfl,HG⟩
            case measure=>simp only [World.iterPos_iter]; omega
      · have hnx:∀ ty,(Instr.next (.pointer (some ⟨w.heap.size,0,none⟩)) true ty).run Tryz.prog (w.iter s pos)=_:=fun ty=>run_next_any w s pos ty hlt
        have hh:=(decode_high s pos hlt (by omega)).1;obtain ⟨c,hc⟩:∃ c,(Utf8.decode s pos).1=c:=⟨_,rfl⟩
        obtain ⟨q,hq⟩:∃ q,pos+(Utf8.decode s pos).2=q:=⟨_,rfl⟩
        rw [hc] at hh;rw [hc,hq] at hnx;have HC:=Lib.hid ha;clear hc hq ha;have d1:decide ((c:Int) < 97)=false:=by simp; omega
        have d2:decide (122 < (c:Int))=true:=by simp; omega
        go_wp2_with fail;go_ret;refine ⟨ret_bool ?_,(Below.refl _ _).alloc (Nat.le_refl _) _⟩;rw [HN.out,HF.out (by have:=HC.out; simp; omega)]
        rfl
    · have hnx:∀ ty,(Instr.next (.pointer (some ⟨w.heap.size,0,none⟩)) true ty).run Tryz.prog (w.iter s pos)=_:=fun ty=>run_next_end w s pos ty hlt
      have HF:Hid (low s.data.toList=true):=by
        have:=HL.out
        rwa [List.take_of_length_le (by simp; omega)] at this
      by_cases q2:s.size≤8
      · go_wp2_with fail;go_ret;refine ⟨ret_bool ?_,(Below.refl _ _).alloc (Nat.le_refl _) _⟩;rw [HN.out,HF.out,Bool.true_and,Bool.eq_iff_iff];simp;omega
      · go_wp2_with fail;go_ret;refine ⟨ret_bool ?_,(Below.refl _ _).alloc (Nat.le_refl _) _⟩;rw [HN.out,HF.out,Bool.true_and,Bool.eq_iff_iff];simp;omega
theorem name_any (s:ByteArray) (w:World) (hs:s.size≤140737488355328):Calls Tryz.prog 137 #[.string s] w fun e w'=>e=.returned (.bool (nm s))∧Below w.heap.size w w':=by
  by_cases h0:s.size=0
  · obtain rfl:=empty_of h0;clear h0 hs;rw [show nm ⟨#[]⟩=false from rfl]
    go_enter Tryz.func137,Tryz.ntmps137
    go_wp2_with fail;go_ret;exact ⟨rfl,Below.refl _ _⟩
  · cases hw:wordB s with
    | false=>exact name_other s w hw h0 hs
    | true=>
      have hb:nm s=false:=by unfold nm; rw [hw]; simp
      rw [hb];have:s=w1∨s=w2∨s=w3∨s=w4∨s=w5∨s=w6:=by simpa [wordB] using hw
      clear hw h0 hs hb
      rcases this with rfl | rfl | rfl | rfl | rfl | rfl
      all_goals
        simp only [w1,w2,w3,w4,w5,w6]
        go_enter Tryz.func137,Tryz.ntmps137
        go_wp2_with fail;go_ret;exact ⟨rfl,Below.refl _ _⟩
end Go.Proofs.YtaapnkoooofalaaGreat.Rx

namespace Go.Proofs.YtaapnkoooofalaaGreat.Rw
open Go Go.RowKit
set_option maxRecDepth 20000
def sameN (l m:List Nd):Bool:=decide (l=m)
theorem sameN_len {l m:List Nd} (h:l.length≠m.length):sameN l m=false:=decide_eq_false fun e=>h (by rw [e])
theorem sameN_at {l m:List Nd} {k:Nat} (h1:k < l.length) (h2:k < m.length):sameN (l.drop k) (m.drop k)=(decide (l[k]=m[k]) && sameN (l.drop (k+1)) (m.drop (k+1))):=by
  unfold sameN;rw [List.drop_eq_getElem_cons h1,List.drop_eq_getElem_cons h2,Bool.eq_iff_iff];simp only [decide_eq_true_eq,Bool.and_eq_true,List.cons.injEq]
set_option maxHeartbeats 400000 in
theorem sameN_other (a1 a2:Option Addr) (c1 c2 n m:Nat) (w:World) (h:n≠m) :
    Calls Tryz.prog 11 #[.slice a1 n c1,.slice a2 m c2] w fun e w'=>e=.returned (.bool false)∧Below w.heap.size w w':=by
  have hne:((n:Int) == (m:Int))=false:=by rw [beq_eq_false_iff_ne]; omega
  have hne':((n:Int) != (m:Int))=true:=by rw [bne_iff_ne]; omega
  go_enter Tryz.func11,Tryz.ntmps11
  go_wp2_with fail;go_ret;exact ⟨rfl,Below.refl _ _⟩
set_option maxHeartbeats 400000 in
theorem sameN_empty (a1 a2:Option Addr) (c1 c2:Nat) (w:World) :
    Calls Tryz.prog 11 #[.slice a1 0 c1,.slice a2 0 c2] w fun e w'=>e=.returned (.bool true)∧Below w.heap.size w w':=by
  go_enter Tryz.func11,Tryz.ntmps11
  go_wp2_with fail;refine Go.wp_loop_rounds 1 ?_;rw [rounds_succ];go_wp2_with fail;go_ret;exact ⟨rfl,Below.refl _ _⟩
set_option maxHeartbeats 2000000 in
theorem sameN_cells (b1 o1 c1 b2 o2 c2:Nat) (l m:List Nd) (w:World) (hl:l.length≤1000000) (he:m.length=l.length) (h1:At w b1 o1 l) (h2:At w b2 o2 m) :
    Calls Tryz.prog 11 #[.slice (some ⟨b1,o1,none⟩) l.length c1,.slice (some ⟨b2,o2,none⟩) l.length c2] w fun e w'=>e=.returned (.bool (sameN l m))∧Below w.heap.size w w':=by
  have H1:=Lib.hid h1;have H2:=Lib.hid h2;have HE:=Lib.hid he;clear h1 h2 he
  go_enter Tryz.func11,Tryz.ntmps11
  go_wp2_with fail
  go_loopw [5] (fun i wr=>∃ k:Nat,k≤l.length∧i=.int .i64 k∧Below w.heap.size w wr∧sameN l m=sameN (l.drop k) (m.drop k)) (fun i _=>l.length - (intOf i).toNat)
  case atStart=>exact ⟨0,Nat.zero_le _,rfl,Below.refl _ _,rfl⟩
  case round=>
    obtain ⟨k,hk,rfl,hb,hsame⟩:=hrel;have HB:=Lib.hid hb;have HS:=Lib.hid hsame;clear hb hsame
    by_cases hlt:k < l.length
    · have hlt2:k < m.length:=by rw [HE.out]; exact hlt
      obtain ⟨e1,e2,e3⟩:=H1.out k hlt;obtain ⟨e1',e2',e3'⟩:=H2.out k hlt2;have d1:wr.cell? ⟨b1,o1+k*3,none⟩=some (.int .i64 l[k].k):=by rw [HB.out.cell (Ap.cell_lt e1)]; exact e1
      have d2:wr.cell? ⟨b1,o1+k*3+1,none⟩=some (.string l[k].n):=by rw [HB.out.cell (Ap.cell_lt e2)]; exact e2
      have d3:wr.cell? ⟨b1,o1+k*3+2,none⟩=some (.int .i64 l[k].s):=by rw [HB.out.cell (Ap.cell_lt e3)]; exact e3
      have d4:wr.cell? ⟨b2,o2+k*3,none⟩=some (.int .i64 m[k].k):=by rw [HB.out.cell (Ap.cell_lt e1')]; exact e1'
      have d5:wr.cell? ⟨b2,o2+k*3+1,none⟩=some (.string m[k].n):=by rw [HB.out.cell (Ap.cell_lt e2')]; exact e2'
      have d6:wr.cell? ⟨b2,o2+k*3+2,none⟩=some (.int .i64 m[k].s):=by rw [HB.out.cell (Ap.cell_lt e3')]; exact e3'
      have HA:=Lib.hid (HS.out.trans (sameN_at hlt hlt2));clear e1 e2 e3 e1' e2' e3';obtain ⟨u,hu⟩:∃ u,l[k]=u:=⟨_,rfl⟩
      obtain ⟨v,hv⟩:∃ v,m[k]=v:=⟨_,rfl⟩
      rw [hu] at d1 d2 d3 HA;rw [hv] at d4 d5 d6 HA;clear hu hv;have hq:=neq_nd u v
      by_cases huv:u=v
      · rw [decide_eq_true huv] at hq;have HV:=Lib.hid huv;clear huv;go_wp2_with fail
        go_quiet (fail)
        go_wp2_with fail
        go_roundw
        case rel=>exact ⟨k+1,by omega,by go_num,HB.out.trans (Below.drewN _ _ _),by rw [HA.out,decide_eq_true HV.out,Bool.true_and]⟩
        case measure=>simp [intOf]; omega
      · rw [decide_eq_false huv] at hq;have HV:=Lib.hid huv;clear huv;go_wp2_with fail
        go_quiet (fail)
        go_wp2_with fail;go_ret;exact ⟨ret_bool (by rw [HA.out,decide_eq_false HV.out,Bool.false_and]),HB.out.trans (Below.drewN _ _ _)⟩
    · go_wp2_with fail;go_ret;refine ⟨ret_bool ?_,HB.out⟩;rw [HS.out,List.drop_eq_nil_of_le (by omega),List.drop_eq_nil_of_le (by rw [HE.out]; omega)]
      rfl
theorem sameR_any (x y:Value) (l m:List Nd) (w:World) (hx:Nds w x l) (hy:Nds w y m) (hl:l.length≤1000000) :
    Calls Tryz.prog 11 #[x,y] w fun e w'=>e=.returned (.bool (sameN l m))∧Below w.heap.size w w':=by
  by_cases he:l.length=m.length
  · rcases hx.form with ⟨rfl,a,cap,rfl⟩ | ⟨b,off,cap,rfl,_,hc⟩
    · obtain rfl:m=[]:=List.eq_nil_of_length_eq_zero he.symm;obtain ⟨_,a',cap',rfl,_⟩:=hy;exact sameN_empty a a' cap cap' w
    · rcases hy.form with ⟨rfl,a',cap',rfl⟩ | ⟨b',off',cap',rfl,_,hc'⟩
      · obtain rfl:l=[]:=List.eq_nil_of_length_eq_zero he;exact sameN_empty _ a' cap cap' w
      · rw [← he];exact sameN_cells b off cap b' off' cap' l m w hl he.symm hc hc'
  · rw [sameN_len he];obtain ⟨_,a,cap,rfl,_⟩:=hx;obtain ⟨_,a',cap',rfl,_⟩:=hy;exact sameN_other a a' cap cap' l.length m.length w he
end Go.Proofs.YtaapnkoooofalaaGreat.Rw

namespace Go.Proofs.YtaapnkoooofalaaGreat.St
open Go Go.RowKit Rw
set_option maxRecDepth 20000
def putN (l:List Nd) (q:Nat) (x:List Nd):List Nd:=if size (l.drop q)=0 then l else l.take q++x++l.drop (q+size (l.drop q))
def putR (l:List Nd) (at_:Int) (x:List Nd):List Nd:=if at_ < 0∨at_≥l.length then l else putN l at_.toNat x
def GotN (base:Nat) (w:World) (v:Value) (l:List Nd):Prop:=w.ownsRow base 36 3 v l.length (cls l)∧base≤w.heap.size
theorem GotN.nds {base:Nat} {w:World} {v:Value} {l:List Nd} (h:GotN base w v l):Nds w v l:=Ap.Rd.owned h.1
theorem GotN.start {base:Nat} {w:World} (hb:base≤w.heap.size):GotN base w (.slice none 0 0) []:=⟨⟨rfl,.inl ⟨rfl,rfl⟩⟩,hb⟩
theorem GotN.row {base:Nat} {w:World} {v y:Value} {l m:List Nd} (h:GotN base w v l) (hy:Nds w y m) (hl:l.length+m.length≤1000000) :
    ∃ v' w',(Builtin.append_ #[22,22] 22 #[v,y]).run Tryz.prog w=.ok v' w'∧GotN base w' v' (l++m)∧Below base w w':=by
  obtain ⟨v',w',h1,h2,_,h4,_⟩:=run_append_nds h.1 h.2 hy (by omega);exact ⟨v',w',h1,⟨h2,Nat.le_trans h.2 h4.size⟩,h4⟩
def OutA (l:List Nd) (w:World) (e:Ending) (w':World):Prop:=∃ y,e=.returned y∧Nds w' y l∧Below w.heap.size w w'
theorem drop_nds {w:World} {b o n c:Nat} {l:List Nd} (hn:l.length=n) (hat:At w b o l) (q:Nat) (hq:q≤n) (hc:n≤c):Nds w (.slice (some ⟨b,o+q*3,none⟩) (n - q) (c - q)) (l.drop q):=by
  subst hn;have:=part_nds hat q (l.length - q) (c - q) (by omega) (by omega)
  rwa [List.take_of_length_le (by rw [List.length_drop]; omega)] at this
theorem take_nds {w:World} {b o n c:Nat} {l:List Nd} (hn:l.length=n) (hat:At w b o l) (q:Nat) (hq:q≤n) (hc:n≤c):Nds w (.slice (some ⟨b,o,none⟩) q c) (l.take q):=by
  subst hn;have:=part_nds hat 0 q c (by omega) (by omega)
  simpa using this
set_option maxHeartbeats 4000000 in
theorem putR_any (v vx:Value) (l x:List Nd) (z:Int) (w:World) (hv:Nds w v l) (hx:Nds w vx x) (hl:l.length≤1000) (hxl:x.length≤1000) :
    Calls Tryz.prog 29 #[v,.int .i64 z,vx] w (OutA (putR l z x) w):=by
  have HX:=Lib.hid (fun w1 (hb:Below w.heap.size w w1)=>hx.below hb);have HV:=Lib.hid (fun w1 (hb:Below w.heap.size w w1)=>hv.below hb);unfold OutA
  by_cases h1:z < 0
  · rw [show putR l z x=l from if_pos (.inl h1)];obtain ⟨_,a,c,rfl,-⟩:=id hv;obtain ⟨_,ax,cx,rfl,-⟩:=id hx;clear hv hx
    go_enter Tryz.func29,Tryz.ntmps29
    go_wp2_with fail;go_ret;exact ⟨_,rfl,HV.out _ (Below.refl _ _),Below.refl _ _⟩
  by_cases h2:z≥l.length
  · rw [show putR l z x=l from if_pos (.inr h2)];obtain ⟨_,a,c,rfl,-⟩:=id hv;obtain ⟨_,ax,cx,rfl,-⟩:=id hx;clear hv hx
    go_enter Tryz.func29,Tryz.ntmps29
    go_wp2_with fail;go_ret;exact ⟨_,rfl,HV.out _ (Below.refl _ _),Below.refl _ _⟩
  obtain ⟨q,rfl⟩:∃ q:Nat,z=(q:Int):=⟨z.toNat,by omega⟩
  have hql:q < l.length:=by omega
  rw [show putR l (q:Int) x=putN l q x from by unfold putR; rw [if_neg (by omega)]; rfl]
  rcases hv.form with ⟨h0,_⟩ | ⟨b,o,c,rfl,hc,hat⟩
  · rw [h0] at hql; simp at hql
  have HD:=Lib.hid (fun w1 (hb:Below w.heap.size w w1)=>(drop_nds rfl hat q (by omega) hc).below hb);have HS:=Lib.hid (fun w1 (hb:Below w.heap.size w w1)=>sizeR_any _ (l.drop q) w1 ((drop_nds rfl hat q (by omega) hc).below hb) (by simp; omega));have hsz:=size_le (l.drop q);rw [List.length_drop] at hsz;have hP:putN l q x=if size (l.drop q)=0 then l else l.take q++x++l.drop (q+size (l.drop q)):=rfl
  obtain ⟨n,hn⟩:∃ n,l.length=n:=⟨_,rfl⟩
  have HT:=Lib.hid (fun w1 (hb:Below w.heap.size w w1)=>(take_nds hn hat q (by omega) (hn ▸ hc)).below hb);obtain ⟨_,ax,cx,rfl,-⟩:=id hx;have hcap:q < c:=by omega
  by_cases hs:size (l.drop q)=0
  · rw [hP,if_pos hs];rw [hs] at HS;rw [hn] at HS HV hc hl hql h2 ⊢;clear hv hx hat hsz hs hP HT HD
    go_enter Tryz.func29,Tryz.ntmps29
    go_wp2_with fail;refine (HS.out _ (Below.refl _ _)).mono ?_;rintro e w1 ⟨rfl,rfl⟩;go_wp2_with fail;go_ret;exact ⟨_,rfl,HV.out _ (Below.refl _ _),Below.refl _ _⟩
  · rw [hP,if_neg hs];obtain ⟨s,hss⟩:∃ s,size (l.drop q)=s:=⟨_,rfl⟩
    have HR:=Lib.hid (fun w1 (hb:Below w.heap.size w w1)=>(drop_nds hn hat (q+s) (by omega) (hn ▸ hc)).below hb);rw [hss] at HS hs hsz ⊢;have gs:((s:Int) == 0)=false:=beq_eq_false_iff_ne.2 (by omega);have hlt:(l.take q).length=q:=by rw [List.length_take]; omega
    have hld:(l.drop (q+s)).length=n - (q+s):=by rw [List.length_drop,hn]
    rw [hn] at HS HV hc hl hql h2 hsz;obtain ⟨L1,hL1⟩:∃ L1,l.take q=L1:=⟨_,rfl⟩
    obtain ⟨L2,hL2⟩:∃ L2,l.drop (q+s)=L2:=⟨_,rfl⟩
    rw [hL1] at HT hlt ⊢;rw [hL2] at HR hld ⊢;obtain ⟨v1,w1,r1,g1,b1⟩:=(GotN.start (base:=w.heap.size) (Nat.le_refl _)).row (HT.out w (Below.refl _ _)) (by simp; omega);rw [List.nil_append] at g1;obtain ⟨a1,c1,rfl⟩:∃ a c,v1=.slice a L1.length c:=by obtain ⟨_,a,c,e,-⟩:=g1.nds; exact ⟨a,c,e⟩
    obtain ⟨v2,w2,r2,g2,b2⟩:=g1.row (HX.out w1 b1) (by omega);obtain ⟨a2,c2,rfl⟩:∃ a c,v2=.slice a (L1++x).length c:=by obtain ⟨_,a,c,e,-⟩:=g2.nds; exact ⟨a,c,e⟩
    have D2:=Lib.hid (b1.trans b2);have E3:=Lib.hid (fun y (hy:Nds w2 y L2)=>g2.row hy (by simp; omega));have R1:=Lib.hid r1;have R2:=Lib.hid r2;obtain ⟨m2,hm2⟩:∃ m2,(L1++x).length=m2:=⟨_,rfl⟩
    rw [hm2] at R2 E3;rw [hlt] at R1 R2;have hqs:q+s≤n:=by omega
    obtain ⟨r,hr⟩:∃ r,q+s=r:=⟨_,rfl⟩
    rw [hr] at HR hqs hld;have hqr:(q:Int)+(s:Int)=(r:Int):=by omega
    have HY:=Lib.hid (HR.out w2 D2.out);clear hv hx hat hs hss hP HT HR HD hL1 hL2 r1 r2 g1 g2 b1 b2 HV HX hm2 hr
    by_cases hrc:r < c
    · obtain ⟨v3,w3,r3,g3,b3⟩:=E3.out _ HY.out;have D3:=Lib.hid (D2.out.trans b3);have R3:=Lib.hid r3;have G3:=Lib.hid g3.nds;clear r3 g3 b3 E3
      go_enter Tryz.func29,Tryz.ntmps29
      go_wp2_with fail;refine (HS.out _ (Below.refl _ _)).mono ?_;rintro e w1' ⟨rfl,rfl⟩;go_wp2_with (at_builtin; first | (refine Ap.wpList_append_run (by rfl) (.tmp 24) (.tmp 27) _ _ rfl _ _ rfl rfl _ w1 R1.out ?_) | (refine Ap.wpList_append_run (by rfl) (.tmp 29) (.tmp 30) _ _ rfl _ _ rfl rfl _ w2 R2.out ?_) | fail);refine (HS.out _ D2.out).mono ?_;rintro e w1' ⟨rfl,rfl⟩;go_wp2_with (at_builtin; refine Ap.wpList_append_run (by rfl) (.tmp 32) (.tmp 40) _ _ rfl _ _ rfl rfl v3 w3 R3.out ?_);go_ret;exact ⟨_,rfl,G3.out,D3.out⟩
    · obtain rfl:r=n:=by omega
      obtain rfl:r=c:=by omega
      obtain rfl:L2=[]:=List.eq_nil_of_length_eq_zero (by omega);obtain ⟨v3,w3,r3,g3,b3⟩:=E3.out (.slice (some ⟨b,o,none⟩) 0 0) ⟨rfl,_,0,rfl,Nat.le_refl _,fun h=>(by cases h),fun h=>absurd h (Nat.lt_irrefl 0)⟩;have D3:=Lib.hid (D2.out.trans b3);have R3:=Lib.hid r3;have G3:=Lib.hid g3.nds;clear r3 g3 b3 E3 HY
      go_enter Tryz.func29,Tryz.ntmps29
      go_wp2_with fail;refine (HS.out _ (Below.refl _ _)).mono ?_;rintro e w1' ⟨rfl,rfl⟩;go_wp2_with (at_builtin; first | (refine Ap.wpList_append_run (by rfl) (.tmp 24) (.tmp 27) _ _ rfl _ _ rfl rfl _ w1 R1.out ?_) | (refine Ap.wpList_append_run (by rfl) (.tmp 29) (.tmp 30) _ _ rfl _ _ rfl rfl _ w2 R2.out ?_) | fail);refine (HS.out _ D2.out).mono ?_;rintro e w1' ⟨rfl,rfl⟩;go_wp2_with (at_builtin; refine Ap.wpList_append_run (by rfl) (.tmp 32) (.tmp 40) _ _ rfl _ _ rfl rfl v3 w3 R3.out ?_);go_ret;exact ⟨_,rfl,G3.out,D3.out⟩
end Go.Proofs.YtaapnkoooofalaaGreat.St

namespace Go.Proofs.YtaapnkoooofalaaGreat.Rx
open Go Go.RowKit Rw
set_option maxRecDepth 20000
def idxAt (x:Int):List Int→Nat→Int
  | [],_=>-1
  | y::l,k=>if x=y then k else idxAt x l (k+1)
theorem idxAt_mem (x:Int) (l:List Int) (k:Nat):decide (0≤idxAt x l k)=decide (x∈l):=by
  induction l generalizing k with
  | nil=>simp [idxAt]
  | cons y l ih=>
    unfold idxAt
    by_cases h:x=y
    · rw [if_pos h,decide_eq_true (show x∈y::l by rw [h]; exact List.mem_cons_self)];simp
    · rw [if_neg h,ih (k+1)];simp [h]
theorem idxAt_end {x:Int} {l:List Int} {k:Nat} (h:¬ k < l.length):idxAt x (l.drop k) k=-1:=by rw [List.drop_eq_nil_of_le (by omega)]; rfl
theorem idxAt_at {x:Int} {l:List Int} {k:Nat} (h:k < l.length):idxAt x (l.drop k) k=if x=l[k] then (k:Int) else idxAt x (l.drop (k+1)) (k+1):=by
  rw [List.drop_eq_getElem_cons h,idxAt]
set_option maxHeartbeats 400000 in
theorem idx_empty (a:Option Addr) (cap:Nat) (x:Int) (w:World) :
    Calls Tryz.prog 79 #[.slice a 0 cap,.int .i64 x] w fun e w'=>e=.returned (.int .i64 (-1))∧w=w':=by
  go_enter Tryz.func79,Tryz.ntmps79
  go_wp2_with fail;refine Go.wp_loop_rounds 1 ?_;rw [rounds_succ];go_wp2_with fail;go_ret;exact ⟨rfl,rfl⟩
set_option maxHeartbeats 800000 in
theorem idx_cells (b off cap:Nat) (l:List Int) (x:Int) (w:World) (hat:AtI w b off l) (hl:l.length≤1000000) :
    Calls Tryz.prog 79 #[.slice (some ⟨b,off,none⟩) l.length cap,.int .i64 x] w fun e w'=>e=.returned (.int .i64 (idxAt x l 0))∧Below w.heap.size w w':=by
  have HA:=Lib.hid hat;clear hat
  go_enter Tryz.func79,Tryz.ntmps79
  go_wp2_with fail
  go_loopw [8] (fun i wr=>∃ k:Nat,k≤l.length∧i=.int .i64 k∧Below w.heap.size w wr∧Hid (idxAt x l 0=idxAt x (l.drop k) k)) (fun i _=>l.length - (intOf i).toNat)
  case atStart=>exact ⟨0,Nat.zero_le _,rfl,Below.refl _ _,Lib.hid rfl⟩
  case round=>
    obtain ⟨k,hk,rfl,hb,HK⟩:=hrel;have HB:=Lib.hid hb;clear hb
    by_cases hlt:k < l.length
    · have e1:=HA.out k hlt;have c1:wr.cell? ⟨b,off+k,none⟩=some (.int .i64 l[k]):=by rw [HB.out.cell (Ap.cell_lt e1)]; exact e1
      have HX:=Lib.hid (HK.out.trans (idxAt_at hlt));obtain ⟨y,hy⟩:∃ y,l[k]=y:=⟨_,rfl⟩
      rw [hy] at c1 HX;clear hy e1
      by_cases hxy:x=y
      · rw [if_pos hxy] at HX;subst hxy;go_wp2_with fail
        try go_quiet (fail)
        try go_wp2_with fail
        go_ret;exact ⟨ret_int HX.out.symm,by first | exact HB.out.trans (Below.drewN _ _ _) | exact HB.out⟩
      · rw [if_neg hxy] at HX;have g:(x == y)=false:=by rw [beq_eq_false_iff_ne]; exact hxy
        clear hxy;go_wp2_with fail
        try go_quiet (fail)
        try go_wp2_with fail
        go_roundw
        case rel=>exact ⟨k+1,by omega,by go_num,by first | exact HB.out.trans (Below.drewN _ _ _) | exact HB.out,HX⟩
        case measure=>simp [intOf]; omega
    · go_wp2_with fail;go_ret;exact ⟨ret_int (by rw [HK.out,idxAt_end hlt]),HB.out⟩
theorem idx_any (v:Value) (l:List Int) (x:Int) (w:World) (h:Ints w v l) (hl:l.length≤1000000) :
    Calls Tryz.prog 79 #[v,.int .i64 x] w fun e w'=>e=.returned (.int .i64 (idxAt x l 0))∧Below w.heap.size w w':=by
  rcases h.form with ⟨rfl,a,cap,rfl⟩ | ⟨b,off,cap,rfl,_,hat⟩
  · refine (idx_empty a cap x w).mono ?_;rintro e w' ⟨rfl,rfl⟩;exact ⟨rfl,Below.refl _ _⟩
  · exact idx_cells b off cap l x w hat hl
set_option maxHeartbeats 400000 in
theorem has_any (v:Value) (l:List Int) (x:Int) (w:World) (h:Ints w v l) (hl:l.length≤1000000) :
    Calls Tryz.prog 48 #[v,.int .i64 x] w fun e w'=>e=.returned (.bool (decide (x∈l)))∧Below w.heap.size w w':=by
  have H:=Lib.hid h;have HQ:=Lib.hid (idxAt_mem x l 0);obtain ⟨q,hq⟩:∃ q,idxAt x l 0=q:=⟨_,rfl⟩
  rw [hq] at HQ;have HC:=Lib.hid hq;clear h hq
  go_enter Tryz.func48,Tryz.ntmps48
  go_wp2_with fail;refine (idx_any v l x _ H.out hl).mono ?_;rw [HC.out];rintro e w' ⟨rfl,hb⟩;have HB:=Lib.hid hb;clear hb;go_wp2_with fail;go_ret;exact ⟨ret_bool HQ.out,HB.out⟩
end Go.Proofs.YtaapnkoooofalaaGreat.Rx

namespace Go.Proofs.YtaapnkoooofalaaGreat.Tr
open Go Go.RowKit
set_option maxRecDepth 20000
end Go.Proofs.YtaapnkoooofalaaGreat.Tr

namespace Go.Proofs.YtaapnkoooofalaaGreat.So
open Go Go.RowKit Rw
set_option maxRecDepth 20000
def Tre (l:List Nd):Prop:=∃ d,T l=some (l.length,d)
theorem Tre.pos {l:List Nd} (h:Tre l):0 < l.length:=by
  obtain ⟨d,h⟩:=h;exact (T_bd h).1
theorem Tre.size {l:List Nd} (h:Tre l):Rw.size l=l.length:=by
  obtain ⟨d,h⟩:=h;unfold Rw.size;rw [h]
theorem Tre.of_size {l:List Nd} (h:Rw.size l=l.length) (h0:l≠[]):Tre l:=by
  unfold Rw.size at h
  cases ht:T l with
  | none=>
    rw [ht] at h;exact absurd (List.eq_nil_of_length_eq_zero h.symm) h0
  | some x=>
    rw [ht] at h;obtain ⟨c,d⟩:=x;simp only at h;exact ⟨d,by rw [ht,h]⟩
theorem Tre.of_head {l:List Nd} {c d:Nat} (h:T l=some (c,d)):Tre (l.take c):=by
  have hh:=T_head h;have hb:=T_bd h;exact ⟨d,by rw [hh,List.length_take,Nat.min_eq_left hb.2.1]⟩
theorem kidsN_tre:∀ (j:Nat) (r:List Nd) (c d:Nat),S j r=some (c,d)→∀ t∈kidsN j r,Tre t
  | 0,_,_,_,_,t,ht=>by cases ht
  | j+1,r,c,d,h,t,ht=>by
    rw [S_succ] at h
    cases hj:S j r with
    | none=>rw [hj] at h; cases h
    | some x=>
      obtain ⟨c1,d1⟩:=x;rw [hj] at h;simp only at h
      cases hx:T (r.drop c1) with
      | none=>rw [hx] at h; cases h
      | some y=>
        obtain ⟨c2,d2⟩:=y;rw [kidsN,hj,List.mem_append,List.mem_singleton] at ht
        rcases ht with ht | ht
        · exact kidsN_tre j r c1 d1 hj t ht
        · rw [ht];simp only [Option.getD_some];have hs:Rw.size (r.drop c1)=c2:=by unfold Rw.size; rw [hx]
          rw [hs];exact Tre.of_head hx
theorem Tre.ar {l:List Nd} (h:Tre l):0≤Rw.ar (hd l):=by
  obtain ⟨d,h⟩:=h
  cases l with
  | nil=>rw [T_nil] at h; cases h
  | cons n r=>
    rw [T_cons] at h
    split at h
    · cases h
    · rename_i hk
      show 0≤Rw.ar n.k
      omega
theorem Tre.kids {l:List Nd} (h:Tre l):(Rw.kids l).length=(Rw.ar (hd l)).toNat∧∀ t∈Rw.kids l,Tre t:=by
  have hs:Rw.size l≠0:=by rw [h.size]; have:=h.pos; omega
  have ha:=h.ar;obtain ⟨d,h⟩:=h
  cases l with
  | nil=>rw [T_nil] at h; cases h
  | cons n r=>
    unfold Rw.kids;rw [if_neg hs];refine ⟨kidsN_len _ _,?_⟩;rw [T_cons] at h
    split at h
    · cases h
    · cases hj:S (Rw.ar n.k).toNat r with
      | none=>rw [hj] at h; cases h
      | some x=>exact kidsN_tre _ r x.1 x.2 hj
theorem Tre.two {l:List Nd} (h:Tre l) (h2:Rw.ar (hd l)=2):∃ a b,Rw.kids l=[a,b]∧Tre a∧Tre b∧a.length < l.length∧b.length < l.length:=by
  obtain ⟨hl,ht⟩:=h.kids;rw [h2] at hl
  match hk:Rw.kids l,hl with
  | [a,b],_=>
    have ha:a∈Rw.kids l:=by rw [hk]; simp
    have hb:b∈Rw.kids l:=by rw [hk]; simp
    exact ⟨a,b,rfl,ht a ha,ht b hb,kids_short ha,kids_short hb⟩
theorem Tre.one {l:List Nd} (h:Tre l) (h1:Rw.ar (hd l)=1):∃ a,Rw.kids l=[a]∧Tre a∧a.length < l.length:=by
  obtain ⟨hl,ht⟩:=h.kids;rw [h1] at hl
  match hk:Rw.kids l,hl with
  | [a],_=>
    have ha:a∈Rw.kids l:=by rw [hk]; simp
    exact ⟨a,rfl,ht a ha,kids_short ha⟩
theorem head_cell {w:World} {v:Value} {l:List Nd} (hv:Nds w v l) (h:Tre l):∃ b o c,v=.slice (some ⟨b,o,none⟩) l.length c∧w.cell? ⟨b,o,none⟩=some (.int .i64 (hd l)):=by
  rcases hv.form with ⟨rfl,_⟩ | ⟨b,o,c,rfl,_,hat⟩
  · exact absurd h.pos (Nat.lt_irrefl 0)
  · refine ⟨b,o,c,rfl,?_⟩;have:=(hat 0 h.pos).1;rw [Nat.zero_mul,Nat.add_zero] at this;rw [this]
    cases l with
    | nil=>exact absurd h.pos (Nat.lt_irrefl 0)
    | cons n r=>rfl
theorem two_rows {w:World} {y:Value} {r s:List Nd} (h:Rws w y [r,s]) :
    ∃ b o c a0 a1,y=.slice (some ⟨b,o,none⟩) 2 c∧w.cell? ⟨b,o,none⟩=some a0∧w.cell? ⟨b,o+1,none⟩=some a1∧Nds w a0 r∧Nds w a1 s:=by
  obtain ⟨cs,⟨_,a,c,rfl,_,_,hcell⟩,hr⟩:=h;obtain ⟨b,o,rfl,hj⟩:=hcell (by simp)
  match cs,hr with
  | [a0,a1],hr=>exact ⟨b,o,c,a0,a1,rfl,hj 0 _ rfl,hj 1 _ rfl,hr.1,hr.2.1⟩
theorem one_row {w:World} {y:Value} {r:List Nd} (h:Rws w y [r]) :
    ∃ b o c a0,y=.slice (some ⟨b,o,none⟩) 1 c∧w.cell? ⟨b,o,none⟩=some a0∧Nds w a0 r:=by
  obtain ⟨cs,⟨_,a,c,rfl,_,_,hcell⟩,hr⟩:=h;obtain ⟨b,o,rfl,hj⟩:=hcell (by simp)
  match cs,hr with
  | [a0],hr=>exact ⟨b,o,c,a0,rfl,hj 0 _ rfl,hr.1⟩
theorem kinds {k:Int} (h:0≤Rw.ar k):k=1∨k=2∨k=3∨k=4∨k=5∨k=6∨k=7∨k=8∨k=9∨k=10∨k=11∨k=12∨k=13∨k=14:=by
  rcases cases15 k with h1 | h1 | h1 | h1 | h1 | h1 | h1 | h1 | h1 | h1 | h1 | h1 | h1 | h1 | h1
  case inr.inr.inr.inr.inr.inr.inr.inr.inr.inr.inr.inr.inr.inr=>rw [ar_no h1] at h; exact absurd h (by decide)
  all_goals omega
def IsC (n:Nat):Prop:=∀ (r:List Nd) (s:Nat) (w:World) (v:Value),r.length < n→Tre r→Nds w v r→1≤s→s≤4→Calls Tryz.prog 87 #[v,.int .i64 s] w fun e w'=>e=.returned (.bool (Is s r))∧Below w.heap.size w w'
end Go.Proofs.YtaapnkoooofalaaGreat.So

namespace Go.Proofs.YtaapnkoooofalaaGreat.Rx
open Go Go.RowKit Rw
set_option maxRecDepth 20000
set_option maxHeartbeats 2000000 in
theorem measure_cells (b off cap:Nat) (l:List Nd) (w:World) (hat:At w b off l) (hl:l.length≤4398046511104) :
    Calls Tryz.prog 122 #[.slice (some ⟨b,off,none⟩) l.length cap] w fun e w'=>e=.returned (.tuple #[.int .i64 (size l),.int .i64 (depth l)])∧Below w.heap.size w w':=by
  have HA:=Lib.hid hat;clear hat;obtain ⟨i0,hi0,hz0,hs0,hb0⟩:=info_parts infoI
  go_enter Tryz.func122,Tryz.ntmps122
  go_wp2_with fail
  go_step3
  go_wp2_with (at_make; refine wpList_make_own _ rfl _ _ 60 rfl w.heap.size 3 i0 _ 1 Tryz.underlying60 hi0 hz0 hs0 .i64 .i64 _ 16 rfl rfl rfl (by rw [hb0]; omega) (by unfold maxLen; omega) (Nat.le_refl _) ?_; intro w0 hown0 hgrow0)
  go_step3
  go_wp2_with fail
  go_loopg [3,4,12] l.length (fun g0 dv ov iv wr=>∃ (k d g c:Nat) (st:List Nat),k+g0=l.length∧d≤k∧st.length≤k∧dv=.int .i64 d∧ov=.slice (some ⟨g,0,none⟩) st.length c∧iv=.int .i64 k∧Hid (Stk w.heap.size wr g c st)∧Hid (Below w.heap.size w wr)∧Hid (Rest l k st d)∧Hid (∀ y∈st,y≤2))
  case atStart=>
    exact ⟨0,0,w.heap.size,16,[],Nat.zero_add _,Nat.le_refl _,Nat.le_refl _,rfl,rfl,rfl,Lib.hid hown0,Lib.hid ((Below.refl _ _).grown hgrow0 (Nat.le_refl _) (fun k hk=>by cases hk)),Lib.hid (Rest.start l),Lib.hid (fun y hy=>by cases hy)⟩
  case round=>
    obtain ⟨k,d,g,c,st,hk,hd,hst,rfl,rfl,rfl,HS,HB,HR,HY⟩:=hrel
    by_cases hlt:k < l.length
    · obtain ⟨e1,e2,e3⟩:=HA.out k hlt;have c1:wr.cell? ⟨b,off+k*3,none⟩=some (.int .i64 l[k].k):=by rw [HB.out.cell (Ap.cell_lt e1)]; exact e1
      have c2:wr.cell? ⟨b,off+k*3+1,none⟩=some (.string l[k].n):=by rw [HB.out.cell (Ap.cell_lt e2)]; exact e2
      have c3:wr.cell? ⟨b,off+k*3+2,none⟩=some (.int .i64 l[k].s):=by rw [HB.out.cell (Ap.cell_lt e3)]; exact e3
      have H1:=Lib.hid (fun ha=>HR.out.stop hlt ha);have H2:=Lib.hid (fun a ha hp=>HR.out.end (a:=a) hlt ha hp);have H3:=Lib.hid (fun a s ha hp=>HR.out.more (a:=a) (s:=s) hlt ha hp);obtain ⟨x,hx⟩:∃ x,l[k]=x:=⟨_,rfl⟩
      rw [hx] at c1 c2 c3 H1 H2 H3;clear hx e1 e2 e3;obtain ⟨a,ha⟩:∃ a,ar x.k=a:=⟨_,rfl⟩
      rw [ha] at H1 H2 H3;have HAR:=Lib.hid ha;have HBD:Hid (a≤2):=by have:=ar_le x.k; rw [ha] at this; exact this.2
      clear ha
      by_cases h0:a < 0
      · have HZ:=Lib.hid (H1.out h0);have d1:decide (a < 0)=true:=decide_eq_true h0;go_wp2_with fail;refine (arP_eq x.k _).mono ?_;rw [HAR.out];rintro e w' ⟨rfl,rfl⟩;go_wp2_with fail;rw [Exit.noGoto_ret];go_ret2;rw [HZ.out.1,HZ.out.2];exact ⟨rfl,HB.out.alloc HB.out.size _⟩
      · obtain ⟨a,rfl⟩:∃ a':Nat,a=(a':Int):=⟨a.toNat,by omega⟩
        have d1:decide ((a:Int) < 0)=false:=decide_eq_false h0;have HB1:Hid (Below w.heap.size w (wr.alloc (nb x))):=HB.out.alloc HB.out.size _;have hS1:Stk w.heap.size (wr.alloc (nb x)) g c st:=Ap.own_below HS.out (below1 wr (nb x));obtain ⟨g',c',w2,hrun,hS2,hB2⟩:=hS1.push a HB1.out.size (by omega);rw [show (wr.alloc (nb x)).heap.size=wr.heap.size+1 by simp] at hrun;have R:=Lib.hid hrun
        have HYA:Hid (∀ y∈st++[a],y≤2):=Lib.hid fun y hy=>by
          rcases List.mem_append.1 hy with h | h
          · exact HY.out y h
          · rw [List.mem_singleton] at h; have:=HBD.out; omega
        have HL:Hid ((st++[a]).length=st.length+1):=by show _=_; simp
        have HS2:=Lib.hid hS2;have HB2:=Lib.hid (HB1.out.trans hB2);have HG:Hid (w.heap.size≤g'):=by obtain ⟨_,_,hb',_⟩:=hS2.parts; exact hb'
        obtain ⟨n,hn⟩:∃ n,st.length=n:=⟨_,rfl⟩
        rw [hn] at R H2 H3 hst HL;clear hrun hS2 hB2 hS1;go_wp2_with fail;refine (arP_eq x.k _).mono ?_;rw [HAR.out];rintro e w' ⟨rfl,rfl⟩;go_wp2_with (at_builtin; refine Ap.wpList_append_run (by rfl) (.tmp 22) (.tmp 24) _ _ rfl _ _ rfl rfl _ w2 R.out ?_)
        all_goals
          go_loopg [4,8] (n+1) (fun g2 sv lv wy=>w2=wy∧sv=.slice (some ⟨g',0,none⟩) (n+1) c'∧g2≤n+1∧Hid (pop (st++[a]).reverse=pop ((st++[a]).take g2).reverse)∧((g2=0∧lv=.int .i64 (-1))∨∃ i:Nat,g2=i+1∧lv=.int .i64 i))
          case atStart=>exact ⟨rfl,rfl,Nat.le_refl _,Lib.hid (by rw [List.take_of_length_le (by rw [HL.out]; exact Nat.le_refl _)]),Or.inr ⟨n,rfl,rfl⟩⟩
          case round=>
            obtain ⟨rfl,rfl,hg2,HP,⟨rfl,rfl⟩ | ⟨i,rfl,rfl⟩⟩:=hrel
            · have HE:=Lib.hid (H2.out a rfl HP.out);go_wp2_with fail;rw [Exit.noGoto_ret];go_ret2;rw [HE.out.1,HE.out.2];refine ⟨?_,HB2.out⟩
              first
                | (rw [Nat.max_eq_left (by omega)]; rfl)
                | (rw [Nat.max_eq_right (by omega)]; rfl)
            · have hi:i < (st++[a]).length:=by rw [HL.out]; omega
              have ci:=HS2.out.cell i hi;have HPI:=Lib.hid (HP.out.trans (congrArg pop (pop_last hi)));obtain ⟨y,hy⟩:∃ y,(st++[a])[i]=y:=⟨_,rfl⟩
              rw [hy] at ci HPI;have HY2:Hid (y≤2):=HYA.out y (by rw [← hy]; exact List.getElem_mem hi);clear hy
              cases y with
              | zero=>
                go_wp2_with fail
                go_roundg i
                case measure=>omega
                case rel=>
                  refine ⟨rfl,rfl,by omega,HPI,?_⟩
                  cases i with
                  | zero=>exact Or.inl ⟨rfl,rfl⟩
                  | succ j=>exact Or.inr ⟨j,rfl,by go_num⟩
              | succ z=>
                have hwz:wrap64 ((z:Nat):Int)=(z:Int):=by have:=HY2.out; unfold wrap64; omega
                have HYZ:Hid (∀ y∈(st++[a]).take i++[z],y≤2):=Lib.hid fun y hy=>by
                  rcases List.mem_append.1 hy with h | h
                  · exact HYA.out y (List.mem_of_mem_take h)
                  · rw [List.mem_singleton] at h; have:=HY2.out; omega
                have hic:i+1≤c':=by have:=HS2.out.cap.1; omega
                have HZ:=Lib.hid (HS2.out.down i z hi);have HN:Hid (Rest l (k+1) ((st++[a]).take i++[z]) (max d (n+1))):=H3.out a _ rfl (HPI.out.trans (by rw [List.reverse_concat]; rfl))
                have HLZ:Hid (((st++[a]).take i++[z]).length=i+1):=by
                  show _=_
                  rw [List.length_append,List.length_take];simp only [List.length_cons,List.length_nil];omega
                have fi:=HS2.out.soft i;go_wp2_with fail
                go_roundg (gk - 1)
                case measure=>omega
                case rel=>
                  refine ⟨k+1,max d (n+1),g',c',(st++[a]).take i++[z],by omega,by omega,by rw [HLZ.out]; omega,?_,by rw [HLZ.out],rfl,HZ,Lib.hid (below_setCell HB2.out _ _ _ HG.out),HN,HYZ⟩
                  first
                    | (rw [Nat.max_eq_left (by omega)]; done)
                    | (rw [Nat.max_eq_right (by omega)]; rfl)
    · have HZ:=Lib.hid (HR.out.out hlt);go_wp2_with fail;rw [Exit.noGoto_ret];go_ret2;rw [HZ.out.1,HZ.out.2];exact ⟨rfl,HB.out⟩
set_option maxHeartbeats 1000000 in
theorem measure_empty (a:Option Addr) (cap:Nat) (w:World) :
    Calls Tryz.prog 122 #[.slice a 0 cap] w fun e w'=>e=.returned (.tuple #[.int .i64 0,.int .i64 0])∧Below w.heap.size w w':=by
  obtain ⟨i0,hi0,hz0,hs0,hb0⟩:=info_parts infoI
  go_enter Tryz.func122,Tryz.ntmps122
  go_wp2_with fail
  go_step3
  go_wp2_with (at_make; refine wpList_make_own _ rfl _ _ 60 rfl w.heap.size 3 i0 _ 1 Tryz.underlying60 hi0 hz0 hs0 .i64 .i64 _ 16 rfl rfl rfl (by rw [hb0]; omega) (by unfold maxLen; omega) (Nat.le_refl _) ?_; intro w0 hown0 hgrow0)
  go_step3
  go_wp2_with fail;refine Go.wp_loop_rounds 1 ?_;rw [rounds_succ];go_wp2_with fail;rw [Exit.noGoto_ret];go_ret2;exact ⟨rfl,(Below.refl _ _).grown hgrow0 (Nat.le_refl _) (fun k hk=>by cases hk)⟩
theorem measure_big (v:Value) (l:List Nd) (w:World) (h:Nds w v l) (hl:l.length≤4398046511104) :
    Calls Tryz.prog 122 #[v] w fun e w'=>e=.returned (.tuple #[.int .i64 (size l),.int .i64 (depth l)])∧Below w.heap.size w w':=by
  rcases h.form with ⟨rfl,a,cap,rfl⟩ | ⟨b,off,cap,rfl,_,hat⟩
  · exact measure_empty a cap w
  · exact measure_cells b off cap l w hat hl
set_option maxHeartbeats 400000 in
theorem sizeP_big (v:Value) (l:List Nd) (w:World) (h:Nds w v l) (hl:l.length≤4398046511104) :
    Calls Tryz.prog 78 #[v] w fun e w'=>e=.returned (.int .i64 (size l))∧Below w.heap.size w w':=by
  have H:=Lib.hid h;clear h
  go_enter Tryz.func78,Tryz.ntmps78
  go_wp2_with fail;refine (measure_big v l _ H.out hl).mono ?_;rintro e w' ⟨rfl,hb⟩;have HB:=Lib.hid hb;clear hb;go_wp2_with fail;go_ret;exact ⟨rfl,HB.out⟩
theorem sizeP_any (v:Value) (l:List Nd) (w:World) (h:Nds w v l) (hl:l.length≤1000000) :
    Calls Tryz.prog 78 #[v] w fun e w'=>e=.returned (.int .i64 (size l))∧Below w.heap.size w w':=sizeP_big v l w h (by omega)
end Go.Proofs.YtaapnkoooofalaaGreat.Rx
