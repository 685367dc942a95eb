/- The document's Path: the walk. -/
import Derived.Test.YtaapnkoooofalaaGreatQ27
import Derived.Test.YtaapnkoooofalaaGreatQ07
import Derived.Deep.QuietTactic

namespace Go.Proofs.YtaapnkoooofalaaGreat.Do
open Go Go.RowKit Rw So Se
set_option maxRecDepth 20000
theorem infoRw:(Tryz.prog.info? 22).map (fun i=>(i.zero,i.size,i.bytes))=some (some (.slice none 0 0),1,24):=by kernel_rfl
def GotR (w0:World) (base:Nat) (w:World) (v:Value) (ls:List (List Nd)):Prop:=∃ cs,w.ownsRow base 22 1 v ls.length cs∧RwC w0 cs ls∧base≤w.heap.size
theorem GotR.rws {w0:World} {base:Nat} {w:World} {v:Value} {ls:List (List Nd)} (h:GotR w0 base w v ls) (hb:Below w0.heap.size w0 w):Rws w v ls:=by
  obtain ⟨cs,h1,h2,_⟩:=h;exact ⟨cs,Ap.Rd.owned h1,h2.below hb⟩
theorem GotR.start {w0:World} {base:Nat} {w:World} (hb:base≤w.heap.size):GotR w0 base w (.slice none 0 0) []:=⟨[],⟨rfl,.inl ⟨rfl,rfl⟩⟩,trivial,hb⟩
theorem GotR.more {w0:World} {base base':Nat} {w:World} {v:Value} {ls:List (List Nd)} (h:GotR w0 base w v ls) (hb:base'≤base):GotR w0 base' w v ls:=by
  obtain ⟨cs,h1,h2,h3⟩:=h;exact ⟨cs,Ap.own_base h1 hb,h2,Nat.le_trans hb h3⟩
theorem GotR.below {w0:World} {base:Nat} {w w':World} {v:Value} {ls:List (List Nd)} (h:GotR w0 base w v ls) (hb:Below w.heap.size w w'):GotR w0 base w' v ls:=by
  obtain ⟨cs,h1,h2,h3⟩:=h;exact ⟨cs,Ap.own_below h1 hb,h2,Nat.le_trans h3 hb.size⟩
theorem GotR.one {w0:World} {base:Nat} {w:World} {v:Value} {ls:List (List Nd)} {a:Option Addr} {n c:Nat} {l:List Nd} (h:GotR w0 base w v ls) (hy:Nds w0 (.slice a n c) l) (hl:ls.length≤100000) :
    ∃ v' w',(Builtin.append_ #[76,76] 76 #[v,.slice (some ⟨w.heap.size,0,none⟩) 1 1]).run Tryz.prog (w.alloc (.cells #[.slice a n c] 22))=.ok v' w'∧GotR w0 base w' v' (ls++[l])∧Below base w w':=by
  obtain ⟨cs,h1,h2,h3⟩:=h;obtain ⟨i0,hi,hz,hs1,hb8⟩:=info_parts infoRw
  obtain ⟨v',w',k1,k2,_,k4,_⟩:=Ap.run_append_one (P:=Tryz.prog) (ty:=76) Tryz.underlying76 hi hz hs1 hb8 (by rfl) (by omega) h1 h3 #[.slice a n c] rfl
    (by intro u hu; simp at hu; subst hu; rfl) (by unfold maxLen; omega) (by omega)
  exact ⟨v',w',k1,⟨cs++[.slice a n c],by rw [List.length_append]; exact k2,h2.snoc hy,Nat.le_trans h3 k4.size⟩,k4⟩
theorem two_rows0 {w w0:World} {y:Value} {cs:List Value} {r s:List Nd} (h:Ap.Rd w 1 y 2 cs) (hr:RwC w0 cs [r,s]) :
    ∃ b o c a0 a1,y=.slice (some ⟨b,o,none⟩) 2 c∧w.cell? ⟨b,o,none⟩=some a0∧w.cell? ⟨b,o+1,none⟩=some a1∧Nds w0 a0 r∧Nds w0 a1 s:=by
  obtain ⟨_,a,c,rfl,_,_,hcell⟩:=h;obtain ⟨b,o,rfl,hj⟩:=hcell (by omega)
  match cs,hr with
  | [a0,a1],hr=>exact ⟨b,o,c,a0,a1,rfl,hj 0 _ rfl,hj 1 _ rfl,hr.1,hr.2.1⟩
theorem one_row0 {w w0:World} {y:Value} {cs:List Value} {r:List Nd} (h:Ap.Rd w 1 y 1 cs) (hr:RwC w0 cs [r]) :
    ∃ b o c a0,y=.slice (some ⟨b,o,none⟩) 1 c∧w.cell? ⟨b,o,none⟩=some a0∧Nds w0 a0 r:=by
  obtain ⟨_,a,c,rfl,_,_,hcell⟩:=h;obtain ⟨b,o,rfl,hj⟩:=hcell (by omega)
  match cs,hr with
  | [a0],hr=>exact ⟨b,o,c,a0,rfl,hj 0 _ rfl,hr.1⟩
def PathPost (w0:World) (L:List Tm) (d:Bool) (w:World) (e:Ending) (w':World):Prop:=∃ y,e=.returned (.tuple #[y,.bool d])∧GotR w0 w.heap.size w' y (L.map flat)∧Below w.heap.size w w'
abbrev Wpa (t:Tm):Prop:=∀ (v:Value) (w0 w:World) (i p:Nat) (x z:Int),x=(i:Int)→z=(p:Int)→i+sz t≤1000→p∈wt t i→Below w0.heap.size w0 w→Nds w0 v (flat t)→
    Calls Tryz.prog 126 #[v,.int .i64 x,.int .i64 z] w (PathPost w0 (pth t i p).1 (pth t i p).2 w)
theorem pth_len:∀ (t:Tm) (i p:Nat),(pth t i p).1.length≤sz t:=by
  intro t
  induction t with
  | par a b ia ib=>
    intro i p;have h1:=ia (i+1) p;have h2:=ib (i+1+sz a) p;have:=sz_pos a;have:=sz_pos b;simp only [pth,sz]
    split
    · simp
    · split
      · split
        · omega
        · simp; omega
      · split
        · omega
        · simp; omega
  | block a ia=>intro i p; have:=ia (i+1) p; simp only [pth,sz]; split; simp; simp; omega
  | fin s c ic=>intro i p; have:=ic (i+1) p; simp only [pth,sz]; split; simp; omega
  | seq a b ia ib=>intro i p; have:=ia (i+1) p; have:=ib (i+1+sz a) p; simp only [pth,sz]; split; simp; split <;> omega
  | alt a b ia ib=>intro i p; have:=ia (i+1) p; have:=ib (i+1+sz a) p; simp only [pth,sz]; split; simp; split <;> omega
  | hand a b ia ib=>intro i p; have:=ia (i+1) p; have:=ib (i+1+sz a) p; simp only [pth,sz]; split; simp; split <;> omega
  | pair a b ia ib=>intro i p; have:=ia (i+1) p; have:=ib (i+1+sz a) p; simp only [pth,sz]; split; simp; split <;> omega
  | going a b ia ib=>intro i p; have:=ia (i+1) p; have:=ib (i+1+sz a) p; simp only [pth,sz]; split; simp; split <;> omega
  | stack a b ia ib=>intro i p; have:=ia (i+1) p; have:=ib (i+1+sz a) p; simp only [pth,sz]; split; simp; split <;> omega
  | _=>intro i p; simp [pth]
set_option maxHeartbeats 1000000 in
theorem path_here (va:Value) (w0 w:World) (x:Int):Calls Tryz.prog 126 #[va,.int .i64 x,.int .i64 x] w (PathPost w0 [] false w):=by
  unfold PathPost
  go_enter Tryz.func126,Tryz.ntmps126
  go_wp2_with fail;go_ret2;exact ⟨_,rfl,GotR.start (Nat.le_refl _),Below.refl _ _⟩
set_option maxHeartbeats 4000000 in
theorem path_seq_0_true (a b:Tm) (va:Value) (w0 w:World) (i p:Nat) (x z:Int) (L:List Tm) (hx:x=(i:Int)) (hz:z=(p:Int)) (hl:i+sz (.seq a b)≤1000) (hp:p∈wt a (i+1)) (hw:Below w0.heap.size w0 w) (hA:Nds w0 va (flat (.seq a b))) (hL:L.length≤1000)
    (RA:Hid (∀ (v:Value) (w1:World) (x:Int),x=((i+1:Nat):Int)→Below w0.heap.size w0 w1→Nds w0 v (flat a)→Calls Tryz.prog 126 #[v,.int .i64 x,.int .i64 z] w1 (PathPost w0 L true w1))) :
    Calls Tryz.prog 126 #[va,.int .i64 x,.int .i64 z] w (PathPost w0 (L) true w):=by
  have KK:=Rw.kidsR_of va (flat (.seq a b)) w0 w hw hA (by rw [Se.flat_len]; omega);rw [show kids (flat (.seq a b))=[flat a,flat b] from kids_seq a b] at KK;obtain ⟨bA,oA,cA,rfl,hcA,hltA,hwA,hatA⟩:=form (hA.below hw);obtain ⟨nA,hnA⟩:∃ n,sz (.seq a b)=n+1:=⟨sz (.seq a b) - 1,by have:=sz_pos (.seq a b); omega⟩
  have hin:=wt_in a _ p hp;have hp1:=sz_pos a;have HLL:Hid (L.length≤1000):=Lib.hid hL;have HW:=Lib.hid hw;obtain ⟨s0,hs0⟩:∃ n,sz a=n:=⟨_,rfl⟩
  obtain ⟨s1,hs1⟩:∃ n,sz b=n:=⟨_,rfl⟩
  simp only [sz] at hl;rw [hs0,hs1] at hl;rw [hs0] at hin hp1;have gx:(x == z)=false:=beq_eq_false_iff_ne.2 (by omega);have x0:0≤x∧x≤1000:=by omega
  obtain ⟨x0,x1⟩:=x0;have z0:s0≤1000:=by omega
  have gz:¬ (x+1+(s0:Int)≤z):=by omega
  have HX:Hid (x=(i:Int)):=Lib.hid hx;rw [hnA] at hcA KK ⊢;have g3A:(1:Int)≤(nA:Int)+1:=by omega
  rw [show kd (.seq a b)=5 from rfl] at hwA;have SA:=Lib.hid hwA;have HK:=Lib.hid KK;unfold PathPost at RA ⊢;clear hnA hatA hA hwA KK hl hx hz hin hp hw hL hp1
  go_enter Tryz.func126,Tryz.ntmps126
  go_wp2_with fail;refine HK.out.mono ?_;rintro e wc ⟨y,cs,rfl,hks,hrc,hb0⟩;obtain ⟨bk,ok,ck,y0,y1,rfl,q0,q1,n0,n1⟩:=two_rows0 hks hrc;have hkl:bk < wc.heap.size:=Ap.cell_lt q0;have KS:Hid (∀ w1,Below wc.heap.size wc w1→w1.cell? ⟨bk,ok,none⟩=some y0∧w1.cell? ⟨bk,ok+1,none⟩=some y1):=Lib.hid fun w1 hb=>⟨by rw [hb.cell (p:=⟨bk,ok,none⟩) hkl]; exact q0,by rw [hb.cell (p:=⟨bk,ok+1,none⟩) hkl]; exact q1⟩
  have N0:=Lib.hid n0;obtain ⟨b0,o0,c0,rfl,-⟩:=form n0;rw [hs0] at KS q0 N0;have N1:=Lib.hid n1;obtain ⟨b1,o1,c1,rfl,-⟩:=form n1;rw [hs1] at KS q1 N1;have B0:=Lib.hid hb0;clear hks hb0 hrc n0 n1 hs0 hs1;go_wp2_with fail;refine Go.wp_loop_rounds 1 ?_;rw [rounds_succ];go_wp2_with fail;refine (RA.out _ _ _ (by have:=HX.out; omega) (HW.out.trans (B0.out.mono HW.out.size)) N0.out).mono ?_;rintro e w1 ⟨v1,rfl,hg1,hb1⟩;have F1:=Lib.hid hb1;have D1:=Lib.hid (B0.out.trans (hb1.mono B0.out.size));have G1:=Lib.hid hg1;have e1:=(SA.out _ D1.out).1;clear hb1 hg1;go_wp2_with fail;go_ret2;exact ⟨_,rfl,G1.out.more B0.out.size,D1.out⟩
set_option maxHeartbeats 4000000 in
theorem path_seq_0_false (a b:Tm) (va:Value) (w0 w:World) (i p:Nat) (x z:Int) (L:List Tm) (hx:x=(i:Int)) (hz:z=(p:Int)) (hl:i+sz (.seq a b)≤1000) (hp:p∈wt a (i+1)) (hw:Below w0.heap.size w0 w) (hA:Nds w0 va (flat (.seq a b))) (hL:L.length≤1000)
    (RA:Hid (∀ (v:Value) (w1:World) (x:Int),x=((i+1:Nat):Int)→Below w0.heap.size w0 w1→Nds w0 v (flat a)→Calls Tryz.prog 126 #[v,.int .i64 x,.int .i64 z] w1 (PathPost w0 L false w1))) :
    Calls Tryz.prog 126 #[va,.int .i64 x,.int .i64 z] w (PathPost w0 (L) false w):=by
  have KK:=Rw.kidsR_of va (flat (.seq a b)) w0 w hw hA (by rw [Se.flat_len]; omega);rw [show kids (flat (.seq a b))=[flat a,flat b] from kids_seq a b] at KK;obtain ⟨bA,oA,cA,rfl,hcA,hltA,hwA,hatA⟩:=form (hA.below hw);obtain ⟨nA,hnA⟩:∃ n,sz (.seq a b)=n+1:=⟨sz (.seq a b) - 1,by have:=sz_pos (.seq a b); omega⟩
  have hin:=wt_in a _ p hp;have hp1:=sz_pos a;have HLL:Hid (L.length≤1000):=Lib.hid hL;have HW:=Lib.hid hw;obtain ⟨s0,hs0⟩:∃ n,sz a=n:=⟨_,rfl⟩
  obtain ⟨s1,hs1⟩:∃ n,sz b=n:=⟨_,rfl⟩
  simp only [sz] at hl;rw [hs0,hs1] at hl;rw [hs0] at hin hp1;have gx:(x == z)=false:=beq_eq_false_iff_ne.2 (by omega);have x0:0≤x∧x≤1000:=by omega
  obtain ⟨x0,x1⟩:=x0;have z0:s0≤1000:=by omega
  have gz:¬ (x+1+(s0:Int)≤z):=by omega
  have HX:Hid (x=(i:Int)):=Lib.hid hx;rw [hnA] at hcA KK ⊢;have g3A:(1:Int)≤(nA:Int)+1:=by omega
  rw [show kd (.seq a b)=5 from rfl] at hwA;have SA:=Lib.hid hwA;have HK:=Lib.hid KK;unfold PathPost at RA ⊢;clear hnA hatA hA hwA KK hl hx hz hin hp hw hL hp1
  go_enter Tryz.func126,Tryz.ntmps126
  go_wp2_with fail;refine HK.out.mono ?_;rintro e wc ⟨y,cs,rfl,hks,hrc,hb0⟩;obtain ⟨bk,ok,ck,y0,y1,rfl,q0,q1,n0,n1⟩:=two_rows0 hks hrc;have hkl:bk < wc.heap.size:=Ap.cell_lt q0;have KS:Hid (∀ w1,Below wc.heap.size wc w1→w1.cell? ⟨bk,ok,none⟩=some y0∧w1.cell? ⟨bk,ok+1,none⟩=some y1):=Lib.hid fun w1 hb=>⟨by rw [hb.cell (p:=⟨bk,ok,none⟩) hkl]; exact q0,by rw [hb.cell (p:=⟨bk,ok+1,none⟩) hkl]; exact q1⟩
  have N0:=Lib.hid n0;obtain ⟨b0,o0,c0,rfl,-⟩:=form n0;rw [hs0] at KS q0 N0;have N1:=Lib.hid n1;obtain ⟨b1,o1,c1,rfl,-⟩:=form n1;rw [hs1] at KS q1 N1;have B0:=Lib.hid hb0;clear hks hb0 hrc n0 n1 hs0 hs1;go_wp2_with fail;refine Go.wp_loop_rounds 1 ?_;rw [rounds_succ];go_wp2_with fail;refine (RA.out _ _ _ (by have:=HX.out; omega) (HW.out.trans (B0.out.mono HW.out.size)) N0.out).mono ?_;rintro e w1 ⟨v1,rfl,hg1,hb1⟩;have F1:=Lib.hid hb1;have D1:=Lib.hid (B0.out.trans (hb1.mono B0.out.size));have G1:=Lib.hid hg1;have e1:=(SA.out _ D1.out).1;clear hb1 hg1;go_wp2_with fail
  go_quiet (fail)
  go_wp2_with fail;go_ret2;exact ⟨_,rfl,(G1.out.more B0.out.size).below (Below.drewN _ _ _),D1.out.trans (Below.drewN _ _ _)⟩
set_option maxHeartbeats 4000000 in
theorem path_hand_0_true (a b:Tm) (va:Value) (w0 w:World) (i p:Nat) (x z:Int) (L:List Tm) (hx:x=(i:Int)) (hz:z=(p:Int)) (hl:i+sz (.hand a b)≤1000) (hp:p∈wt a (i+1)) (hw:Below w0.heap.size w0 w) (hA:Nds w0 va (flat (.hand a b))) (hL:L.length≤1000)
    (RA:Hid (∀ (v:Value) (w1:World) (x:Int),x=((i+1:Nat):Int)→Below w0.heap.size w0 w1→Nds w0 v (flat a)→Calls Tryz.prog 126 #[v,.int .i64 x,.int .i64 z] w1 (PathPost w0 L true w1))) :
    Calls Tryz.prog 126 #[va,.int .i64 x,.int .i64 z] w (PathPost w0 (L) true w):=by
  have KK:=Rw.kidsR_of va (flat (.hand a b)) w0 w hw hA (by rw [Se.flat_len]; omega);rw [show kids (flat (.hand a b))=[flat a,flat b] from kids_hand a b] at KK;obtain ⟨bA,oA,cA,rfl,hcA,hltA,hwA,hatA⟩:=form (hA.below hw);obtain ⟨nA,hnA⟩:∃ n,sz (.hand a b)=n+1:=⟨sz (.hand a b) - 1,by have:=sz_pos (.hand a b); omega⟩
  have hin:=wt_in a _ p hp;have hp1:=sz_pos a;have HLL:Hid (L.length≤1000):=Lib.hid hL;have HW:=Lib.hid hw;obtain ⟨s0,hs0⟩:∃ n,sz a=n:=⟨_,rfl⟩
  obtain ⟨s1,hs1⟩:∃ n,sz b=n:=⟨_,rfl⟩
  simp only [sz] at hl;rw [hs0,hs1] at hl;rw [hs0] at hin hp1;have gx:(x == z)=false:=beq_eq_false_iff_ne.2 (by omega);have x0:0≤x∧x≤1000:=by omega
  obtain ⟨x0,x1⟩:=x0;have z0:s0≤1000:=by omega
  have gz:¬ (x+1+(s0:Int)≤z):=by omega
  have HX:Hid (x=(i:Int)):=Lib.hid hx;rw [hnA] at hcA KK ⊢;have g3A:(1:Int)≤(nA:Int)+1:=by omega
  rw [show kd (.hand a b)=8 from rfl] at hwA;have SA:=Lib.hid hwA;have HK:=Lib.hid KK;unfold PathPost at RA ⊢;clear hnA hatA hA hwA KK hl hx hz hin hp hw hL hp1
  go_enter Tryz.func126,Tryz.ntmps126
  go_wp2_with fail;refine HK.out.mono ?_;rintro e wc ⟨y,cs,rfl,hks,hrc,hb0⟩;obtain ⟨bk,ok,ck,y0,y1,rfl,q0,q1,n0,n1⟩:=two_rows0 hks hrc;have hkl:bk < wc.heap.size:=Ap.cell_lt q0;have KS:Hid (∀ w1,Below wc.heap.size wc w1→w1.cell? ⟨bk,ok,none⟩=some y0∧w1.cell? ⟨bk,ok+1,none⟩=some y1):=Lib.hid fun w1 hb=>⟨by rw [hb.cell (p:=⟨bk,ok,none⟩) hkl]; exact q0,by rw [hb.cell (p:=⟨bk,ok+1,none⟩) hkl]; exact q1⟩
  have N0:=Lib.hid n0;obtain ⟨b0,o0,c0,rfl,-⟩:=form n0;rw [hs0] at KS q0 N0;have N1:=Lib.hid n1;obtain ⟨b1,o1,c1,rfl,-⟩:=form n1;rw [hs1] at KS q1 N1;have B0:=Lib.hid hb0;clear hks hb0 hrc n0 n1 hs0 hs1;go_wp2_with fail;refine Go.wp_loop_rounds 1 ?_;rw [rounds_succ];go_wp2_with fail;refine (RA.out _ _ _ (by have:=HX.out; omega) (HW.out.trans (B0.out.mono HW.out.size)) N0.out).mono ?_;rintro e w1 ⟨v1,rfl,hg1,hb1⟩;have F1:=Lib.hid hb1;have D1:=Lib.hid (B0.out.trans (hb1.mono B0.out.size));have G1:=Lib.hid hg1;have e1:=(SA.out _ D1.out).1;clear hb1 hg1;go_wp2_with fail;go_ret2;exact ⟨_,rfl,G1.out.more B0.out.size,D1.out⟩
set_option maxHeartbeats 4000000 in
theorem path_hand_0_false (a b:Tm) (va:Value) (w0 w:World) (i p:Nat) (x z:Int) (L:List Tm) (hx:x=(i:Int)) (hz:z=(p:Int)) (hl:i+sz (.hand a b)≤1000) (hp:p∈wt a (i+1)) (hw:Below w0.heap.size w0 w) (hA:Nds w0 va (flat (.hand a b))) (hL:L.length≤1000)
    (RA:Hid (∀ (v:Value) (w1:World) (x:Int),x=((i+1:Nat):Int)→Below w0.heap.size w0 w1→Nds w0 v (flat a)→Calls Tryz.prog 126 #[v,.int .i64 x,.int .i64 z] w1 (PathPost w0 L false w1))) :
    Calls Tryz.prog 126 #[va,.int .i64 x,.int .i64 z] w (PathPost w0 (L) false w):=by
  have KK:=Rw.kidsR_of va (flat (.hand a b)) w0 w hw hA (by rw [Se.flat_len]; omega);rw [show kids (flat (.hand a b))=[flat a,flat b] from kids_hand a b] at KK;obtain ⟨bA,oA,cA,rfl,hcA,hltA,hwA,hatA⟩:=form (hA.below hw);obtain ⟨nA,hnA⟩:∃ n,sz (.hand a b)=n+1:=⟨sz (.hand a b) - 1,by have:=sz_pos (.hand a b); omega⟩
  have hin:=wt_in a _ p hp;have hp1:=sz_pos a;have HLL:Hid (L.length≤1000):=Lib.hid hL;have HW:=Lib.hid hw;obtain ⟨s0,hs0⟩:∃ n,sz a=n:=⟨_,rfl⟩
  obtain ⟨s1,hs1⟩:∃ n,sz b=n:=⟨_,rfl⟩
  simp only [sz] at hl;rw [hs0,hs1] at hl;rw [hs0] at hin hp1;have gx:(x == z)=false:=beq_eq_false_iff_ne.2 (by omega);have x0:0≤x∧x≤1000:=by omega
  obtain ⟨x0,x1⟩:=x0;have z0:s0≤1000:=by omega
  have gz:¬ (x+1+(s0:Int)≤z):=by omega
  have HX:Hid (x=(i:Int)):=Lib.hid hx;rw [hnA] at hcA KK ⊢;have g3A:(1:Int)≤(nA:Int)+1:=by omega
  rw [show kd (.hand a b)=8 from rfl] at hwA;have SA:=Lib.hid hwA;have HK:=Lib.hid KK;unfold PathPost at RA ⊢;clear hnA hatA hA hwA KK hl hx hz hin hp hw hL hp1
  go_enter Tryz.func126,Tryz.ntmps126
  go_wp2_with fail;refine HK.out.mono ?_;rintro e wc ⟨y,cs,rfl,hks,hrc,hb0⟩;obtain ⟨bk,ok,ck,y0,y1,rfl,q0,q1,n0,n1⟩:=two_rows0 hks hrc;have hkl:bk < wc.heap.size:=Ap.cell_lt q0;have KS:Hid (∀ w1,Below wc.heap.size wc w1→w1.cell? ⟨bk,ok,none⟩=some y0∧w1.cell? ⟨bk,ok+1,none⟩=some y1):=Lib.hid fun w1 hb=>⟨by rw [hb.cell (p:=⟨bk,ok,none⟩) hkl]; exact q0,by rw [hb.cell (p:=⟨bk,ok+1,none⟩) hkl]; exact q1⟩
  have N0:=Lib.hid n0;obtain ⟨b0,o0,c0,rfl,-⟩:=form n0;rw [hs0] at KS q0 N0;have N1:=Lib.hid n1;obtain ⟨b1,o1,c1,rfl,-⟩:=form n1;rw [hs1] at KS q1 N1;have B0:=Lib.hid hb0;clear hks hb0 hrc n0 n1 hs0 hs1;go_wp2_with fail;refine Go.wp_loop_rounds 1 ?_;rw [rounds_succ];go_wp2_with fail;refine (RA.out _ _ _ (by have:=HX.out; omega) (HW.out.trans (B0.out.mono HW.out.size)) N0.out).mono ?_;rintro e w1 ⟨v1,rfl,hg1,hb1⟩;have F1:=Lib.hid hb1;have D1:=Lib.hid (B0.out.trans (hb1.mono B0.out.size));have G1:=Lib.hid hg1;have e1:=(SA.out _ D1.out).1;clear hb1 hg1;go_wp2_with fail
  go_quiet (fail)
  go_wp2_with fail;go_ret2;exact ⟨_,rfl,(G1.out.more B0.out.size).below (Below.drewN _ _ _),D1.out.trans (Below.drewN _ _ _)⟩
set_option maxHeartbeats 4000000 in
theorem path_going_0_true (a b:Tm) (va:Value) (w0 w:World) (i p:Nat) (x z:Int) (L:List Tm) (hx:x=(i:Int)) (hz:z=(p:Int)) (hl:i+sz (.going a b)≤1000) (hp:p∈wt a (i+1)) (hw:Below w0.heap.size w0 w) (hA:Nds w0 va (flat (.going a b))) (hL:L.length≤1000)
    (RA:Hid (∀ (v:Value) (w1:World) (x:Int),x=((i+1:Nat):Int)→Below w0.heap.size w0 w1→Nds w0 v (flat a)→Calls Tryz.prog 126 #[v,.int .i64 x,.int .i64 z] w1 (PathPost w0 L true w1))) :
    Calls Tryz.prog 126 #[va,.int .i64 x,.int .i64 z] w (PathPost w0 (L) true w):=by
  have KK:=Rw.kidsR_of va (flat (.going a b)) w0 w hw hA (by rw [Se.flat_len]; omega);rw [show kids (flat (.going a b))=[flat a,flat b] from kids_going a b] at KK;obtain ⟨bA,oA,cA,rfl,hcA,hltA,hwA,hatA⟩:=form (hA.below hw);obtain ⟨nA,hnA⟩:∃ n,sz (.going a b)=n+1:=⟨sz (.going a b) - 1,by have:=sz_pos (.going a b); omega⟩
  have hin:=wt_in a _ p hp;have hp1:=sz_pos a;have HLL:Hid (L.length≤1000):=Lib.hid hL;have HW:=Lib.hid hw;obtain ⟨s0,hs0⟩:∃ n,sz a=n:=⟨_,rfl⟩
  obtain ⟨s1,hs1⟩:∃ n,sz b=n:=⟨_,rfl⟩
  simp only [sz] at hl;rw [hs0,hs1] at hl;rw [hs0] at hin hp1;have gx:(x == z)=false:=beq_eq_false_iff_ne.2 (by omega);have x0:0≤x∧x≤1000:=by omega
  obtain ⟨x0,x1⟩:=x0;have z0:s0≤1000:=by omega
  have gz:¬ (x+1+(s0:Int)≤z):=by omega
  have HX:Hid (x=(i:Int)):=Lib.hid hx;rw [hnA] at hcA KK ⊢;have g3A:(1:Int)≤(nA:Int)+1:=by omega
  rw [show kd (.going a b)=12 from rfl] at hwA;have SA:=Lib.hid hwA;have HK:=Lib.hid KK;unfold PathPost at RA ⊢;clear hnA hatA hA hwA KK hl hx hz hin hp hw hL hp1
  go_enter Tryz.func126,Tryz.ntmps126
  go_wp2_with fail;refine HK.out.mono ?_;rintro e wc ⟨y,cs,rfl,hks,hrc,hb0⟩;obtain ⟨bk,ok,ck,y0,y1,rfl,q0,q1,n0,n1⟩:=two_rows0 hks hrc;have hkl:bk < wc.heap.size:=Ap.cell_lt q0;have KS:Hid (∀ w1,Below wc.heap.size wc w1→w1.cell? ⟨bk,ok,none⟩=some y0∧w1.cell? ⟨bk,ok+1,none⟩=some y1):=Lib.hid fun w1 hb=>⟨by rw [hb.cell (p:=⟨bk,ok,none⟩) hkl]; exact q0,by rw [hb.cell (p:=⟨bk,ok+1,none⟩) hkl]; exact q1⟩
  have N0:=Lib.hid n0;obtain ⟨b0,o0,c0,rfl,-⟩:=form n0;rw [hs0] at KS q0 N0;have N1:=Lib.hid n1;obtain ⟨b1,o1,c1,rfl,-⟩:=form n1;rw [hs1] at KS q1 N1;have B0:=Lib.hid hb0;clear hks hb0 hrc n0 n1 hs0 hs1;go_wp2_with fail;refine Go.wp_loop_rounds 1 ?_;rw [rounds_succ];go_wp2_with fail;refine (RA.out _ _ _ (by have:=HX.out; omega) (HW.out.trans (B0.out.mono HW.out.size)) N0.out).mono ?_;rintro e w1 ⟨v1,rfl,hg1,hb1⟩;have F1:=Lib.hid hb1;have D1:=Lib.hid (B0.out.trans (hb1.mono B0.out.size));have G1:=Lib.hid hg1;have e1:=(SA.out _ D1.out).1;clear hb1 hg1;go_wp2_with fail;go_ret2;exact ⟨_,rfl,G1.out.more B0.out.size,D1.out⟩
set_option maxHeartbeats 4000000 in
theorem path_going_0_false (a b:Tm) (va:Value) (w0 w:World) (i p:Nat) (x z:Int) (L:List Tm) (hx:x=(i:Int)) (hz:z=(p:Int)) (hl:i+sz (.going a b)≤1000) (hp:p∈wt a (i+1)) (hw:Below w0.heap.size w0 w) (hA:Nds w0 va (flat (.going a b))) (hL:L.length≤1000)
    (RA:Hid (∀ (v:Value) (w1:World) (x:Int),x=((i+1:Nat):Int)→Below w0.heap.size w0 w1→Nds w0 v (flat a)→Calls Tryz.prog 126 #[v,.int .i64 x,.int .i64 z] w1 (PathPost w0 L false w1))) :
    Calls Tryz.prog 126 #[va,.int .i64 x,.int .i64 z] w (PathPost w0 (L) false w):=by
  have KK:=Rw.kidsR_of va (flat (.going a b)) w0 w hw hA (by rw [Se.flat_len]; omega);rw [show kids (flat (.going a b))=[flat a,flat b] from kids_going a b] at KK;obtain ⟨bA,oA,cA,rfl,hcA,hltA,hwA,hatA⟩:=form (hA.below hw);obtain ⟨nA,hnA⟩:∃ n,sz (.going a b)=n+1:=⟨sz (.going a b) - 1,by have:=sz_pos (.going a b); omega⟩
  have hin:=wt_in a _ p hp;have hp1:=sz_pos a;have HLL:Hid (L.length≤1000):=Lib.hid hL;have HW:=Lib.hid hw;obtain ⟨s0,hs0⟩:∃ n,sz a=n:=⟨_,rfl⟩
  obtain ⟨s1,hs1⟩:∃ n,sz b=n:=⟨_,rfl⟩
  simp only [sz] at hl;rw [hs0,hs1] at hl;rw [hs0] at hin hp1;have gx:(x == z)=false:=beq_eq_false_iff_ne.2 (by omega);have x0:0≤x∧x≤1000:=by omega
  obtain ⟨x0,x1⟩:=x0;have z0:s0≤1000:=by omega
  have gz:¬ (x+1+(s0:Int)≤z):=by omega
  have HX:Hid (x=(i:Int)):=Lib.hid hx;rw [hnA] at hcA KK ⊢;have g3A:(1:Int)≤(nA:Int)+1:=by omega
  rw [show kd (.going a b)=12 from rfl] at hwA;have SA:=Lib.hid hwA;have HK:=Lib.hid KK;unfold PathPost at RA ⊢;clear hnA hatA hA hwA KK hl hx hz hin hp hw hL hp1
  go_enter Tryz.func126,Tryz.ntmps126
  go_wp2_with fail;refine HK.out.mono ?_;rintro e wc ⟨y,cs,rfl,hks,hrc,hb0⟩;obtain ⟨bk,ok,ck,y0,y1,rfl,q0,q1,n0,n1⟩:=two_rows0 hks hrc;have hkl:bk < wc.heap.size:=Ap.cell_lt q0;have KS:Hid (∀ w1,Below wc.heap.size wc w1→w1.cell? ⟨bk,ok,none⟩=some y0∧w1.cell? ⟨bk,ok+1,none⟩=some y1):=Lib.hid fun w1 hb=>⟨by rw [hb.cell (p:=⟨bk,ok,none⟩) hkl]; exact q0,by rw [hb.cell (p:=⟨bk,ok+1,none⟩) hkl]; exact q1⟩
  have N0:=Lib.hid n0;obtain ⟨b0,o0,c0,rfl,-⟩:=form n0;rw [hs0] at KS q0 N0;have N1:=Lib.hid n1;obtain ⟨b1,o1,c1,rfl,-⟩:=form n1;rw [hs1] at KS q1 N1;have B0:=Lib.hid hb0;clear hks hb0 hrc n0 n1 hs0 hs1;go_wp2_with fail;refine Go.wp_loop_rounds 1 ?_;rw [rounds_succ];go_wp2_with fail;refine (RA.out _ _ _ (by have:=HX.out; omega) (HW.out.trans (B0.out.mono HW.out.size)) N0.out).mono ?_;rintro e w1 ⟨v1,rfl,hg1,hb1⟩;have F1:=Lib.hid hb1;have D1:=Lib.hid (B0.out.trans (hb1.mono B0.out.size));have G1:=Lib.hid hg1;have e1:=(SA.out _ D1.out).1;clear hb1 hg1;go_wp2_with fail
  go_quiet (fail)
  go_wp2_with fail;go_ret2;exact ⟨_,rfl,(G1.out.more B0.out.size).below (Below.drewN _ _ _),D1.out.trans (Below.drewN _ _ _)⟩
set_option maxHeartbeats 4000000 in
theorem path_stack_0_true (a b:Tm) (va:Value) (w0 w:World) (i p:Nat) (x z:Int) (L:List Tm) (hx:x=(i:Int)) (hz:z=(p:Int)) (hl:i+sz (.stack a b)≤1000) (hp:p∈wt a (i+1)) (hw:Below w0.heap.size w0 w) (hA:Nds w0 va (flat (.stack a b))) (hL:L.length≤1000)
    (RA:Hid (∀ (v:Value) (w1:World) (x:Int),x=((i+1:Nat):Int)→Below w0.heap.size w0 w1→Nds w0 v (flat a)→Calls Tryz.prog 126 #[v,.int .i64 x,.int .i64 z] w1 (PathPost w0 L true w1))) :
    Calls Tryz.prog 126 #[va,.int .i64 x,.int .i64 z] w (PathPost w0 (L) true w):=by
  have KK:=Rw.kidsR_of va (flat (.stack a b)) w0 w hw hA (by rw [Se.flat_len]; omega);rw [show kids (flat (.stack a b))=[flat a,flat b] from kids_stack a b] at KK;obtain ⟨bA,oA,cA,rfl,hcA,hltA,hwA,hatA⟩:=form (hA.below hw);obtain ⟨nA,hnA⟩:∃ n,sz (.stack a b)=n+1:=⟨sz (.stack a b) - 1,by have:=sz_pos (.stack a b); omega⟩
  have hin:=wt_in a _ p hp;have hp1:=sz_pos a;have HLL:Hid (L.length≤1000):=Lib.hid hL;have HW:=Lib.hid hw;obtain ⟨s0,hs0⟩:∃ n,sz a=n:=⟨_,rfl⟩
  obtain ⟨s1,hs1⟩:∃ n,sz b=n:=⟨_,rfl⟩
  simp only [sz] at hl;rw [hs0,hs1] at hl;rw [hs0] at hin hp1;have gx:(x == z)=false:=beq_eq_false_iff_ne.2 (by omega);have x0:0≤x∧x≤1000:=by omega
  obtain ⟨x0,x1⟩:=x0;have z0:s0≤1000:=by omega
  have gz:¬ (x+1+(s0:Int)≤z):=by omega
  have HX:Hid (x=(i:Int)):=Lib.hid hx;rw [hnA] at hcA KK ⊢;have g3A:(1:Int)≤(nA:Int)+1:=by omega
  rw [show kd (.stack a b)=13 from rfl] at hwA;have SA:=Lib.hid hwA;have HK:=Lib.hid KK;unfold PathPost at RA ⊢;clear hnA hatA hA hwA KK hl hx hz hin hp hw hL hp1
  go_enter Tryz.func126,Tryz.ntmps126
  go_wp2_with fail;refine HK.out.mono ?_;rintro e wc ⟨y,cs,rfl,hks,hrc,hb0⟩;obtain ⟨bk,ok,ck,y0,y1,rfl,q0,q1,n0,n1⟩:=two_rows0 hks hrc;have hkl:bk < wc.heap.size:=Ap.cell_lt q0;have KS:Hid (∀ w1,Below wc.heap.size wc w1→w1.cell? ⟨bk,ok,none⟩=some y0∧w1.cell? ⟨bk,ok+1,none⟩=some y1):=Lib.hid fun w1 hb=>⟨by rw [hb.cell (p:=⟨bk,ok,none⟩) hkl]; exact q0,by rw [hb.cell (p:=⟨bk,ok+1,none⟩) hkl]; exact q1⟩
  have N0:=Lib.hid n0;obtain ⟨b0,o0,c0,rfl,-⟩:=form n0;rw [hs0] at KS q0 N0;have N1:=Lib.hid n1;obtain ⟨b1,o1,c1,rfl,-⟩:=form n1;rw [hs1] at KS q1 N1;have B0:=Lib.hid hb0;clear hks hb0 hrc n0 n1 hs0 hs1;go_wp2_with fail;refine Go.wp_loop_rounds 1 ?_;rw [rounds_succ];go_wp2_with fail;refine (RA.out _ _ _ (by have:=HX.out; omega) (HW.out.trans (B0.out.mono HW.out.size)) N0.out).mono ?_;rintro e w1 ⟨v1,rfl,hg1,hb1⟩;have F1:=Lib.hid hb1;have D1:=Lib.hid (B0.out.trans (hb1.mono B0.out.size));have G1:=Lib.hid hg1;have e1:=(SA.out _ D1.out).1;clear hb1 hg1;go_wp2_with fail;go_ret2;exact ⟨_,rfl,G1.out.more B0.out.size,D1.out⟩
set_option maxHeartbeats 4000000 in
theorem path_stack_0_false (a b:Tm) (va:Value) (w0 w:World) (i p:Nat) (x z:Int) (L:List Tm) (hx:x=(i:Int)) (hz:z=(p:Int)) (hl:i+sz (.stack a b)≤1000) (hp:p∈wt a (i+1)) (hw:Below w0.heap.size w0 w) (hA:Nds w0 va (flat (.stack a b))) (hL:L.length≤1000)
    (RA:Hid (∀ (v:Value) (w1:World) (x:Int),x=((i+1:Nat):Int)→Below w0.heap.size w0 w1→Nds w0 v (flat a)→Calls Tryz.prog 126 #[v,.int .i64 x,.int .i64 z] w1 (PathPost w0 L false w1))) :
    Calls Tryz.prog 126 #[va,.int .i64 x,.int .i64 z] w (PathPost w0 (L) false w):=by
  have KK:=Rw.kidsR_of va (flat (.stack a b)) w0 w hw hA (by rw [Se.flat_len]; omega);rw [show kids (flat (.stack a b))=[flat a,flat b] from kids_stack a b] at KK;obtain ⟨bA,oA,cA,rfl,hcA,hltA,hwA,hatA⟩:=form (hA.below hw);obtain ⟨nA,hnA⟩:∃ n,sz (.stack a b)=n+1:=⟨sz (.stack a b) - 1,by have:=sz_pos (.stack a b); omega⟩
  have hin:=wt_in a _ p hp;have hp1:=sz_pos a;have HLL:Hid (L.length≤1000):=Lib.hid hL;have HW:=Lib.hid hw;obtain ⟨s0,hs0⟩:∃ n,sz a=n:=⟨_,rfl⟩
  obtain ⟨s1,hs1⟩:∃ n,sz b=n:=⟨_,rfl⟩
  simp only [sz] at hl;rw [hs0,hs1] at hl;rw [hs0] at hin hp1;have gx:(x == z)=false:=beq_eq_false_iff_ne.2 (by omega);have x0:0≤x∧x≤1000:=by omega
  obtain ⟨x0,x1⟩:=x0;have z0:s0≤1000:=by omega
  have gz:¬ (x+1+(s0:Int)≤z):=by omega
  have HX:Hid (x=(i:Int)):=Lib.hid hx;rw [hnA] at hcA KK ⊢;have g3A:(1:Int)≤(nA:Int)+1:=by omega
  rw [show kd (.stack a b)=13 from rfl] at hwA;have SA:=Lib.hid hwA;have HK:=Lib.hid KK;unfold PathPost at RA ⊢;clear hnA hatA hA hwA KK hl hx hz hin hp hw hL hp1
  go_enter Tryz.func126,Tryz.ntmps126
  go_wp2_with fail;refine HK.out.mono ?_;rintro e wc ⟨y,cs,rfl,hks,hrc,hb0⟩;obtain ⟨bk,ok,ck,y0,y1,rfl,q0,q1,n0,n1⟩:=two_rows0 hks hrc;have hkl:bk < wc.heap.size:=Ap.cell_lt q0;have KS:Hid (∀ w1,Below wc.heap.size wc w1→w1.cell? ⟨bk,ok,none⟩=some y0∧w1.cell? ⟨bk,ok+1,none⟩=some y1):=Lib.hid fun w1 hb=>⟨by rw [hb.cell (p:=⟨bk,ok,none⟩) hkl]; exact q0,by rw [hb.cell (p:=⟨bk,ok+1,none⟩) hkl]; exact q1⟩
  have N0:=Lib.hid n0;obtain ⟨b0,o0,c0,rfl,-⟩:=form n0;rw [hs0] at KS q0 N0;have N1:=Lib.hid n1;obtain ⟨b1,o1,c1,rfl,-⟩:=form n1;rw [hs1] at KS q1 N1;have B0:=Lib.hid hb0;clear hks hb0 hrc n0 n1 hs0 hs1;go_wp2_with fail;refine Go.wp_loop_rounds 1 ?_;rw [rounds_succ];go_wp2_with fail;refine (RA.out _ _ _ (by have:=HX.out; omega) (HW.out.trans (B0.out.mono HW.out.size)) N0.out).mono ?_;rintro e w1 ⟨v1,rfl,hg1,hb1⟩;have F1:=Lib.hid hb1;have D1:=Lib.hid (B0.out.trans (hb1.mono B0.out.size));have G1:=Lib.hid hg1;have e1:=(SA.out _ D1.out).1;clear hb1 hg1;go_wp2_with fail
  go_quiet (fail)
  go_wp2_with fail;go_ret2;exact ⟨_,rfl,(G1.out.more B0.out.size).below (Below.drewN _ _ _),D1.out.trans (Below.drewN _ _ _)⟩
set_option maxHeartbeats 4000000 in
theorem path_block_0_true (a:Tm) (va:Value) (w0 w:World) (i p:Nat) (x z:Int) (L:List Tm) (hx:x=(i:Int)) (hz:z=(p:Int)) (hl:i+sz (.block a)≤1000) (hp:p∈wt a (i+1)) (hw:Below w0.heap.size w0 w) (hA:Nds w0 va (flat (.block a))) (hL:L.length≤1000)
    (RA:Hid (∀ (v:Value) (w1:World) (x:Int),x=((i+1:Nat):Int)→Below w0.heap.size w0 w1→Nds w0 v (flat a)→Calls Tryz.prog 126 #[v,.int .i64 x,.int .i64 z] w1 (PathPost w0 L true w1))) :
    Calls Tryz.prog 126 #[va,.int .i64 x,.int .i64 z] w (PathPost w0 (L) true w):=by
  have KK:=Rw.kidsR_of va (flat (.block a)) w0 w hw hA (by rw [Se.flat_len]; omega);rw [show kids (flat (.block a))=[flat a] from kids_block a] at KK;obtain ⟨bA,oA,cA,rfl,hcA,hltA,hwA,hatA⟩:=form (hA.below hw);obtain ⟨nA,hnA⟩:∃ n,sz (.block a)=n+1:=⟨sz (.block a) - 1,by have:=sz_pos (.block a); omega⟩
  have hin:=wt_in a _ p hp;have hp1:=sz_pos a;have HLL:Hid (L.length≤1000):=Lib.hid hL;have HW:=Lib.hid hw;obtain ⟨s0,hs0⟩:∃ n,sz a=n:=⟨_,rfl⟩
  simp only [sz] at hl;rw [hs0] at hl;rw [hs0] at hin hp1;have gx:(x == z)=false:=beq_eq_false_iff_ne.2 (by omega);have x0:0≤x∧x≤1000:=by omega
  obtain ⟨x0,x1⟩:=x0;have z0:s0≤1000:=by omega
  have gz:¬ (x+1+(s0:Int)≤z):=by omega
  have HX:Hid (x=(i:Int)):=Lib.hid hx;rw [hnA] at hcA KK ⊢;have g3A:(1:Int)≤(nA:Int)+1:=by omega
  rw [show kd (.block a)=9 from rfl] at hwA;have SA:=Lib.hid hwA;have HK:=Lib.hid KK;unfold PathPost at RA ⊢;clear hnA hatA hA hwA KK hl hx hz hin hp hw hL hp1
  go_enter Tryz.func126,Tryz.ntmps126
  go_wp2_with fail;refine HK.out.mono ?_;rintro e wc ⟨y,cs,rfl,hks,hrc,hb0⟩;obtain ⟨bk,ok,ck,y0,rfl,q0,n0⟩:=one_row0 hks hrc;have hkl:bk < wc.heap.size:=Ap.cell_lt q0;have KS:Hid (∀ w1,Below wc.heap.size wc w1→w1.cell? ⟨bk,ok,none⟩=some y0):=Lib.hid fun w1 hb=>by rw [hb.cell (p:=⟨bk,ok,none⟩) hkl]; exact q0
  have N0:=Lib.hid n0;obtain ⟨b0,o0,c0,rfl,-⟩:=form n0;rw [hs0] at KS q0 N0;have B0:=Lib.hid hb0;clear hks hb0 hrc n0 hs0;go_wp2_with fail;refine Go.wp_loop_rounds 1 ?_;rw [rounds_succ];go_wp2_with fail;refine (RA.out _ _ _ (by have:=HX.out; omega) (HW.out.trans (B0.out.mono HW.out.size)) N0.out).mono ?_;rintro e w1 ⟨v1,rfl,hg1,hb1⟩;have F1:=Lib.hid hb1;have D1:=Lib.hid (B0.out.trans (hb1.mono B0.out.size));have G1:=Lib.hid hg1;have e1:=(SA.out _ D1.out).1;clear hb1 hg1;go_wp2_with fail;go_ret2;exact ⟨_,rfl,G1.out.more B0.out.size,D1.out⟩
set_option maxHeartbeats 4000000 in
theorem path_block_0_false (a:Tm) (va:Value) (w0 w:World) (i p:Nat) (x z:Int) (L:List Tm) (hx:x=(i:Int)) (hz:z=(p:Int)) (hl:i+sz (.block a)≤1000) (hp:p∈wt a (i+1)) (hw:Below w0.heap.size w0 w) (hA:Nds w0 va (flat (.block a))) (hL:L.length≤1000)
    (RA:Hid (∀ (v:Value) (w1:World) (x:Int),x=((i+1:Nat):Int)→Below w0.heap.size w0 w1→Nds w0 v (flat a)→Calls Tryz.prog 126 #[v,.int .i64 x,.int .i64 z] w1 (PathPost w0 L false w1))) :
    Calls Tryz.prog 126 #[va,.int .i64 x,.int .i64 z] w (PathPost w0 (L) true w):=by
  have KK:=Rw.kidsR_of va (flat (.block a)) w0 w hw hA (by rw [Se.flat_len]; omega);rw [show kids (flat (.block a))=[flat a] from kids_block a] at KK;obtain ⟨bA,oA,cA,rfl,hcA,hltA,hwA,hatA⟩:=form (hA.below hw);obtain ⟨nA,hnA⟩:∃ n,sz (.block a)=n+1:=⟨sz (.block a) - 1,by have:=sz_pos (.block a); omega⟩
  have hin:=wt_in a _ p hp;have hp1:=sz_pos a;have HLL:Hid (L.length≤1000):=Lib.hid hL;have HW:=Lib.hid hw;obtain ⟨s0,hs0⟩:∃ n,sz a=n:=⟨_,rfl⟩
  simp only [sz] at hl;rw [hs0] at hl;rw [hs0] at hin hp1;have gx:(x == z)=false:=beq_eq_false_iff_ne.2 (by omega);have x0:0≤x∧x≤1000:=by omega
  obtain ⟨x0,x1⟩:=x0;have z0:s0≤1000:=by omega
  have gz:¬ (x+1+(s0:Int)≤z):=by omega
  have HX:Hid (x=(i:Int)):=Lib.hid hx;rw [hnA] at hcA KK ⊢;have g3A:(1:Int)≤(nA:Int)+1:=by omega
  rw [show kd (.block a)=9 from rfl] at hwA;have SA:=Lib.hid hwA;have HK:=Lib.hid KK;unfold PathPost at RA ⊢;clear hnA hatA hA hwA KK hl hx hz hin hp hw hL hp1
  go_enter Tryz.func126,Tryz.ntmps126
  go_wp2_with fail;refine HK.out.mono ?_;rintro e wc ⟨y,cs,rfl,hks,hrc,hb0⟩;obtain ⟨bk,ok,ck,y0,rfl,q0,n0⟩:=one_row0 hks hrc;have hkl:bk < wc.heap.size:=Ap.cell_lt q0;have KS:Hid (∀ w1,Below wc.heap.size wc w1→w1.cell? ⟨bk,ok,none⟩=some y0):=Lib.hid fun w1 hb=>by rw [hb.cell (p:=⟨bk,ok,none⟩) hkl]; exact q0
  have N0:=Lib.hid n0;obtain ⟨b0,o0,c0,rfl,-⟩:=form n0;rw [hs0] at KS q0 N0;have B0:=Lib.hid hb0;clear hks hb0 hrc n0 hs0;go_wp2_with fail;refine Go.wp_loop_rounds 1 ?_;rw [rounds_succ];go_wp2_with fail;refine (RA.out _ _ _ (by have:=HX.out; omega) (HW.out.trans (B0.out.mono HW.out.size)) N0.out).mono ?_;rintro e w1 ⟨v1,rfl,hg1,hb1⟩;have F1:=Lib.hid hb1;have D1:=Lib.hid (B0.out.trans (hb1.mono B0.out.size));have G1:=Lib.hid hg1;have e1:=(SA.out _ D1.out).1;clear hb1 hg1;go_wp2_with fail
  go_quiet (fail)
  go_wp2_with fail;go_ret2;exact ⟨_,rfl,(G1.out.more B0.out.size).below (Below.drewN _ _ _),D1.out.trans (Below.drewN _ _ _)⟩
set_option maxHeartbeats 4000000 in
theorem path_par_0_true (a b:Tm) (va:Value) (w0 w:World) (i p:Nat) (x z:Int) (L:List Tm) (hx:x=(i:Int)) (hz:z=(p:Int)) (hl:i+sz (.par a b)≤1000) (hp:p∈wt a (i+1)) (hw:Below w0.heap.size w0 w) (hA:Nds w0 va (flat (.par a b))) (hL:L.length≤1000)
    (RA:Hid (∀ (v:Value) (w1:World) (x:Int),x=((i+1:Nat):Int)→Below w0.heap.size w0 w1→Nds w0 v (flat a)→Calls Tryz.prog 126 #[v,.int .i64 x,.int .i64 z] w1 (PathPost w0 L true w1))) :
    Calls Tryz.prog 126 #[va,.int .i64 x,.int .i64 z] w (PathPost w0 (L) true w):=by
  have KK:=Rw.kidsR_of va (flat (.par a b)) w0 w hw hA (by rw [Se.flat_len]; omega);rw [show kids (flat (.par a b))=[flat a,flat b] from kids_par a b] at KK;obtain ⟨bA,oA,cA,rfl,hcA,hltA,hwA,hatA⟩:=form (hA.below hw);obtain ⟨nA,hnA⟩:∃ n,sz (.par a b)=n+1:=⟨sz (.par a b) - 1,by have:=sz_pos (.par a b); omega⟩
  have hin:=wt_in a _ p hp;have hp1:=sz_pos a;have HLL:Hid (L.length≤1000):=Lib.hid hL;have HW:=Lib.hid hw;obtain ⟨s0,hs0⟩:∃ n,sz a=n:=⟨_,rfl⟩
  obtain ⟨s1,hs1⟩:∃ n,sz b=n:=⟨_,rfl⟩
  simp only [sz] at hl;rw [hs0,hs1] at hl;rw [hs0] at hin hp1;have gx:(x == z)=false:=beq_eq_false_iff_ne.2 (by omega);have x0:0≤x∧x≤1000:=by omega
  obtain ⟨x0,x1⟩:=x0;have z0:s0≤1000:=by omega
  have gz:¬ (x+1+(s0:Int)≤z):=by omega
  have HX:Hid (x=(i:Int)):=Lib.hid hx;rw [hnA] at hcA KK ⊢;have g3A:(1:Int)≤(nA:Int)+1:=by omega
  rw [show kd (.par a b)=7 from rfl] at hwA;have SA:=Lib.hid hwA;have HK:=Lib.hid KK;unfold PathPost at RA ⊢;clear hnA hatA hA hwA KK hl hx hz hin hp hw hL hp1
  go_enter Tryz.func126,Tryz.ntmps126
  go_wp2_with fail;refine HK.out.mono ?_;rintro e wc ⟨y,cs,rfl,hks,hrc,hb0⟩;obtain ⟨bk,ok,ck,y0,y1,rfl,q0,q1,n0,n1⟩:=two_rows0 hks hrc;have hkl:bk < wc.heap.size:=Ap.cell_lt q0;have KS:Hid (∀ w1,Below wc.heap.size wc w1→w1.cell? ⟨bk,ok,none⟩=some y0∧w1.cell? ⟨bk,ok+1,none⟩=some y1):=Lib.hid fun w1 hb=>⟨by rw [hb.cell (p:=⟨bk,ok,none⟩) hkl]; exact q0,by rw [hb.cell (p:=⟨bk,ok+1,none⟩) hkl]; exact q1⟩
  have N0:=Lib.hid n0;obtain ⟨b0,o0,c0,rfl,-⟩:=form n0;rw [hs0] at KS q0 N0;have N1:=Lib.hid n1;obtain ⟨b1,o1,c1,rfl,-⟩:=form n1;rw [hs1] at KS q1 N1;have B0:=Lib.hid hb0;clear hks hb0 hrc n0 n1 hs0 hs1;go_wp2_with fail;refine Go.wp_loop_rounds 1 ?_;rw [rounds_succ];go_wp2_with fail;refine (RA.out _ _ _ (by have:=HX.out; omega) (HW.out.trans (B0.out.mono HW.out.size)) N0.out).mono ?_;rintro e w1 ⟨v1,rfl,hg1,hb1⟩;have F1:=Lib.hid hb1;have D1:=Lib.hid (B0.out.trans (hb1.mono B0.out.size));have G1:=Lib.hid hg1;have e1:=(SA.out _ D1.out).1;clear hb1 hg1;go_wp2_with fail;go_ret2;exact ⟨_,rfl,G1.out.more B0.out.size,D1.out⟩
set_option maxHeartbeats 4000000 in
theorem path_par_0_false (a b:Tm) (va:Value) (w0 w:World) (i p:Nat) (x z:Int) (L:List Tm) (hx:x=(i:Int)) (hz:z=(p:Int)) (hl:i+sz (.par a b)≤1000) (hp:p∈wt a (i+1)) (hw:Below w0.heap.size w0 w) (hA:Nds w0 va (flat (.par a b))) (hL:L.length≤1000)
    (RA:Hid (∀ (v:Value) (w1:World) (x:Int),x=((i+1:Nat):Int)→Below w0.heap.size w0 w1→Nds w0 v (flat a)→Calls Tryz.prog 126 #[v,.int .i64 x,.int .i64 z] w1 (PathPost w0 L false w1))) :
    Calls Tryz.prog 126 #[va,.int .i64 x,.int .i64 z] w (PathPost w0 (L++[b]) false w):=by
  have KK:=Rw.kidsR_of va (flat (.par a b)) w0 w hw hA (by rw [Se.flat_len]; omega);rw [show kids (flat (.par a b))=[flat a,flat b] from kids_par a b] at KK;obtain ⟨bA,oA,cA,rfl,hcA,hltA,hwA,hatA⟩:=form (hA.below hw);obtain ⟨nA,hnA⟩:∃ n,sz (.par a b)=n+1:=⟨sz (.par a b) - 1,by have:=sz_pos (.par a b); omega⟩
  have hin:=wt_in a _ p hp;have hp1:=sz_pos a;have HLL:Hid (L.length≤1000):=Lib.hid hL;have HW:=Lib.hid hw;obtain ⟨s0,hs0⟩:∃ n,sz a=n:=⟨_,rfl⟩
  obtain ⟨s1,hs1⟩:∃ n,sz b=n:=⟨_,rfl⟩
  simp only [sz] at hl;rw [hs0,hs1] at hl;rw [hs0] at hin hp1;have gx:(x == z)=false:=beq_eq_false_iff_ne.2 (by omega);have x0:0≤x∧x≤1000:=by omega
  obtain ⟨x0,x1⟩:=x0;have z0:s0≤1000:=by omega
  have gz:¬ (x+1+(s0:Int)≤z):=by omega
  have HX:Hid (x=(i:Int)):=Lib.hid hx;rw [hnA] at hcA KK ⊢;have g3A:(1:Int)≤(nA:Int)+1:=by omega
  rw [show kd (.par a b)=7 from rfl] at hwA;have SA:=Lib.hid hwA;have HK:=Lib.hid KK;unfold PathPost at RA ⊢;clear hnA hatA hA hwA KK hl hx hz hin hp hw hL hp1
  go_enter Tryz.func126,Tryz.ntmps126
  go_wp2_with fail;refine HK.out.mono ?_;rintro e wc ⟨y,cs,rfl,hks,hrc,hb0⟩;obtain ⟨bk,ok,ck,y0,y1,rfl,q0,q1,n0,n1⟩:=two_rows0 hks hrc;have hkl:bk < wc.heap.size:=Ap.cell_lt q0;have KS:Hid (∀ w1,Below wc.heap.size wc w1→w1.cell? ⟨bk,ok,none⟩=some y0∧w1.cell? ⟨bk,ok+1,none⟩=some y1):=Lib.hid fun w1 hb=>⟨by rw [hb.cell (p:=⟨bk,ok,none⟩) hkl]; exact q0,by rw [hb.cell (p:=⟨bk,ok+1,none⟩) hkl]; exact q1⟩
  have N0:=Lib.hid n0;obtain ⟨b0,o0,c0,rfl,-⟩:=form n0;rw [hs0] at KS q0 N0;have N1:=Lib.hid n1;obtain ⟨b1,o1,c1,rfl,-⟩:=form n1;rw [hs1] at KS q1 N1;have B0:=Lib.hid hb0;clear hks hb0 hrc n0 n1 hs0 hs1;go_wp2_with fail;refine Go.wp_loop_rounds 1 ?_;rw [rounds_succ];go_wp2_with fail;refine (RA.out _ _ _ (by have:=HX.out; omega) (HW.out.trans (B0.out.mono HW.out.size)) N0.out).mono ?_;rintro e w1 ⟨v1,rfl,hg1,hb1⟩;have F1:=Lib.hid hb1;have D1:=Lib.hid (B0.out.trans (hb1.mono B0.out.size));have G1:=Lib.hid hg1;have e1:=(SA.out _ D1.out).1;obtain ⟨v2,w2,hrun,hg2,hb2⟩:=hg1.one N1.out (by rw [List.length_map]; have:=HLL.out; omega);have R2:=Lib.hid hrun;have D2:=Lib.hid (D1.out.trans (hb2.mono B0.out.size));have G2:=Lib.hid (hg2.more B0.out.size);obtain ⟨p0,p1⟩:=KS.out w1 F1.out;have e2:=(SA.out _ D2.out).1;clear hrun hg2 hb2 hb1 hg1;go_wp2_with (at_builtin; refine Ap.wpList_append_run (by rfl) (.tmp 55) (.tmp 61) _ _ rfl _ _ rfl rfl v2 w2 R2.out ?_)
  go_quiet (fail)
  go_wp2_with fail;go_ret2;exact ⟨_,rfl,by rw [List.map_append]; exact G2.out.below (Below.drewN _ _ _),D2.out.trans (Below.drewN _ _ _)⟩
set_option maxHeartbeats 4000000 in
theorem path_par_1_true (a b:Tm) (va:Value) (w0 w:World) (i p:Nat) (x z:Int) (L:List Tm) (hx:x=(i:Int)) (hz:z=(p:Int)) (hl:i+sz (.par a b)≤1000) (hp:p∈wt b (i+1+sz a)) (hw:Below w0.heap.size w0 w) (hA:Nds w0 va (flat (.par a b))) (hL:L.length≤1000)
    (RA:Hid (∀ (v:Value) (w1:World) (x:Int),x=((i+1+sz a:Nat):Int)→Below w0.heap.size w0 w1→Nds w0 v (flat b)→Calls Tryz.prog 126 #[v,.int .i64 x,.int .i64 z] w1 (PathPost w0 L true w1))) :
    Calls Tryz.prog 126 #[va,.int .i64 x,.int .i64 z] w (PathPost w0 (L) true w):=by
  have KK:=Rw.kidsR_of va (flat (.par a b)) w0 w hw hA (by rw [Se.flat_len]; omega);rw [show kids (flat (.par a b))=[flat a,flat b] from kids_par a b] at KK;obtain ⟨bA,oA,cA,rfl,hcA,hltA,hwA,hatA⟩:=form (hA.below hw);obtain ⟨nA,hnA⟩:∃ n,sz (.par a b)=n+1:=⟨sz (.par a b) - 1,by have:=sz_pos (.par a b); omega⟩
  have hin:=wt_in b _ p hp;have hp1:=sz_pos b;have HLL:Hid (L.length≤1000):=Lib.hid hL;have HW:=Lib.hid hw;obtain ⟨s0,hs0⟩:∃ n,sz a=n:=⟨_,rfl⟩
  obtain ⟨s1,hs1⟩:∃ n,sz b=n:=⟨_,rfl⟩
  simp only [sz] at hl;rw [hs0,hs1] at hl;rw [hs1] at hin hp1;rw [hs0] at hin RA;have gx:(x == z)=false:=beq_eq_false_iff_ne.2 (by omega);have x0:0≤x∧x≤1000:=by omega
  obtain ⟨x0,x1⟩:=x0;have z0:s0≤1000:=by omega
  have z1:s1≤1000:=by omega
  have gy:x+1+(s0:Int)≤z:=by omega
  have gz:¬ (x+1+(s0:Int)+(s1:Int)≤z):=by omega
  have HX:Hid (x=(i:Int)):=Lib.hid hx;rw [hnA] at hcA KK ⊢;have g3A:(1:Int)≤(nA:Int)+1:=by omega
  rw [show kd (.par a b)=7 from rfl] at hwA;have SA:=Lib.hid hwA;have HK:=Lib.hid KK;unfold PathPost at RA ⊢;clear hnA hatA hA hwA KK hl hx hz hin hp hw hL hp1
  go_enter Tryz.func126,Tryz.ntmps126
  go_wp2_with fail;refine HK.out.mono ?_;rintro e wc ⟨y,cs,rfl,hks,hrc,hb0⟩;obtain ⟨bk,ok,ck,y0,y1,rfl,q0,q1,n0,n1⟩:=two_rows0 hks hrc;have hkl:bk < wc.heap.size:=Ap.cell_lt q0;have KS:Hid (∀ w1,Below wc.heap.size wc w1→w1.cell? ⟨bk,ok,none⟩=some y0∧w1.cell? ⟨bk,ok+1,none⟩=some y1):=Lib.hid fun w1 hb=>⟨by rw [hb.cell (p:=⟨bk,ok,none⟩) hkl]; exact q0,by rw [hb.cell (p:=⟨bk,ok+1,none⟩) hkl]; exact q1⟩
  have N0:=Lib.hid n0;obtain ⟨b0,o0,c0,rfl,-⟩:=form n0;rw [hs0] at KS q0 N0;have N1:=Lib.hid n1;obtain ⟨b1,o1,c1,rfl,-⟩:=form n1;rw [hs1] at KS q1 N1;have B0:=Lib.hid hb0;clear hks hb0 hrc n0 n1 hs0 hs1;go_wp2_with fail;refine Go.wp_loop_rounds 2 ?_;rw [rounds_succ];go_wp2_with fail;rw [rounds_succ];go_wp2_with fail;refine (RA.out _ _ _ (by have:=HX.out; omega) (HW.out.trans (B0.out.mono HW.out.size)) N1.out).mono ?_;rintro e w1 ⟨v1,rfl,hg1,hb1⟩;have F1:=Lib.hid hb1;have D1:=Lib.hid (B0.out.trans (hb1.mono B0.out.size));have G1:=Lib.hid hg1;have e1:=(SA.out _ D1.out).1;clear hb1 hg1;go_wp2_with fail;go_ret2;exact ⟨_,rfl,G1.out.more B0.out.size,D1.out⟩
set_option maxHeartbeats 4000000 in
theorem path_par_1_false (a b:Tm) (va:Value) (w0 w:World) (i p:Nat) (x z:Int) (L:List Tm) (hx:x=(i:Int)) (hz:z=(p:Int)) (hl:i+sz (.par a b)≤1000) (hp:p∈wt b (i+1+sz a)) (hw:Below w0.heap.size w0 w) (hA:Nds w0 va (flat (.par a b))) (hL:L.length≤1000)
    (RA:Hid (∀ (v:Value) (w1:World) (x:Int),x=((i+1+sz a:Nat):Int)→Below w0.heap.size w0 w1→Nds w0 v (flat b)→Calls Tryz.prog 126 #[v,.int .i64 x,.int .i64 z] w1 (PathPost w0 L false w1))) :
    Calls Tryz.prog 126 #[va,.int .i64 x,.int .i64 z] w (PathPost w0 (L++[a]) false w):=by
  have KK:=Rw.kidsR_of va (flat (.par a b)) w0 w hw hA (by rw [Se.flat_len]; omega);rw [show kids (flat (.par a b))=[flat a,flat b] from kids_par a b] at KK;obtain ⟨bA,oA,cA,rfl,hcA,hltA,hwA,hatA⟩:=form (hA.below hw);obtain ⟨nA,hnA⟩:∃ n,sz (.par a b)=n+1:=⟨sz (.par a b) - 1,by have:=sz_pos (.par a b); omega⟩
  have hin:=wt_in b _ p hp;have hp1:=sz_pos b;have HLL:Hid (L.length≤1000):=Lib.hid hL;have HW:=Lib.hid hw;obtain ⟨s0,hs0⟩:∃ n,sz a=n:=⟨_,rfl⟩
  obtain ⟨s1,hs1⟩:∃ n,sz b=n:=⟨_,rfl⟩
  simp only [sz] at hl;rw [hs0,hs1] at hl;rw [hs1] at hin hp1;rw [hs0] at hin RA;have gx:(x == z)=false:=beq_eq_false_iff_ne.2 (by omega);have x0:0≤x∧x≤1000:=by omega
  obtain ⟨x0,x1⟩:=x0;have z0:s0≤1000:=by omega
  have z1:s1≤1000:=by omega
  have gy:x+1+(s0:Int)≤z:=by omega
  have gz:¬ (x+1+(s0:Int)+(s1:Int)≤z):=by omega
  have HX:Hid (x=(i:Int)):=Lib.hid hx;rw [hnA] at hcA KK ⊢;have g3A:(1:Int)≤(nA:Int)+1:=by omega
  rw [show kd (.par a b)=7 from rfl] at hwA;have SA:=Lib.hid hwA;have HK:=Lib.hid KK;unfold PathPost at RA ⊢;clear hnA hatA hA hwA KK hl hx hz hin hp hw hL hp1
  go_enter Tryz.func126,Tryz.ntmps126
  go_wp2_with fail;refine HK.out.mono ?_;rintro e wc ⟨y,cs,rfl,hks,hrc,hb0⟩;obtain ⟨bk,ok,ck,y0,y1,rfl,q0,q1,n0,n1⟩:=two_rows0 hks hrc;have hkl:bk < wc.heap.size:=Ap.cell_lt q0;have KS:Hid (∀ w1,Below wc.heap.size wc w1→w1.cell? ⟨bk,ok,none⟩=some y0∧w1.cell? ⟨bk,ok+1,none⟩=some y1):=Lib.hid fun w1 hb=>⟨by rw [hb.cell (p:=⟨bk,ok,none⟩) hkl]; exact q0,by rw [hb.cell (p:=⟨bk,ok+1,none⟩) hkl]; exact q1⟩
  have N0:=Lib.hid n0;obtain ⟨b0,o0,c0,rfl,-⟩:=form n0;rw [hs0] at KS q0 N0;have N1:=Lib.hid n1;obtain ⟨b1,o1,c1,rfl,-⟩:=form n1;rw [hs1] at KS q1 N1;have B0:=Lib.hid hb0;clear hks hb0 hrc n0 n1 hs0 hs1;go_wp2_with fail;refine Go.wp_loop_rounds 2 ?_;rw [rounds_succ];go_wp2_with fail;rw [rounds_succ];go_wp2_with fail;refine (RA.out _ _ _ (by have:=HX.out; omega) (HW.out.trans (B0.out.mono HW.out.size)) N1.out).mono ?_;rintro e w1 ⟨v1,rfl,hg1,hb1⟩;have F1:=Lib.hid hb1;have D1:=Lib.hid (B0.out.trans (hb1.mono B0.out.size));have G1:=Lib.hid hg1;have e1:=(SA.out _ D1.out).1;obtain ⟨v2,w2,hrun,hg2,hb2⟩:=hg1.one N0.out (by rw [List.length_map]; have:=HLL.out; omega);have R2:=Lib.hid hrun;have D2:=Lib.hid (D1.out.trans (hb2.mono B0.out.size));have G2:=Lib.hid (hg2.more B0.out.size);obtain ⟨p0,p1⟩:=KS.out w1 F1.out;have e2:=(SA.out _ D2.out).1;clear hrun hg2 hb2 hb1 hg1;go_wp2_with (at_builtin; refine Ap.wpList_append_run (by rfl) (.tmp 55) (.tmp 61) _ _ rfl _ _ rfl rfl v2 w2 R2.out ?_)
  go_quiet (fail)
  go_wp2_with fail;go_ret2;exact ⟨_,rfl,by rw [List.map_append]; exact G2.out.below (Below.drewN _ _ _),D2.out.trans (Below.drewN _ _ _)⟩
theorem Wpa.hidW {c:Tm} {w0:World} {z:Int} {p i:Nat} (R:Wpa c) (hz:z=(p:Int)) (hl:i+sz c≤1000) (hp:p∈wt c i) {d:Bool} (hd:(pth c i p).2=d) :
    Hid (∀ (v:Value) (w1:World) (x:Int),x=(i:Int)→Below w0.heap.size w0 w1→Nds w0 v (flat c)→Calls Tryz.prog 126 #[v,.int .i64 x,.int .i64 z] w1 (PathPost w0 (pth c i p).1 d w1)):=by
  subst hd;exact Lib.hid fun v w1 x hx hb hv=>R v w0 w1 i p x z hx hz hl hp hb hv
theorem pathR_any:∀ t:Tm,Wpa t:=by
  intro t
  induction t with
  | act s=>intro v w0 w i p x z hx hz hl hp hw hv; simp only [wt,List.mem_singleton] at hp; obtain rfl:x=z:=(by omega); exact path_here v w0 w x
  | yield=>intro v w0 w i p x z hx hz hl hp hw hv; simp only [wt,List.mem_singleton] at hp; obtain rfl:x=z:=(by omega); exact path_here v w0 w x
  | alt a b=>intro v w0 w i p x z hx hz hl hp hw hv; simp only [wt,List.mem_singleton] at hp; subst hp; obtain rfl:x=z:=(by omega); rw [show pth (.alt a b) p p=([],false) from by simp [pth]]; exact path_here v w0 w x
  | pair a b=>intro v w0 w i p x z hx hz hl hp hw hv; simp only [wt,List.mem_singleton] at hp; subst hp; obtain rfl:x=z:=(by omega); rw [show pth (.pair a b) p p=([],false) from by simp [pth]]; exact path_here v w0 w x
  | seq a b ia ib=>
    intro v w0 w i p x z hx hz hl hp hw hv;have hp:p∈wt a (i+1):=hp;have hin:=wt_in a _ p hp;have hs:i+1+sz a≤1000:=by simp only [sz] at hl; omega
    have hle:=pth_len a (i+1) p;rw [show pth (.seq a b) i p=pth a (i+1) p from by rw [pth,if_neg (by omega),if_pos hin.2]]
    cases hd:(pth a (i+1) p).2 with
    | true=>exact path_seq_0_true a b v w0 w i p x z _ hx hz hl hp hw hv (Nat.le_trans hle (by omega)) (ia.hidW hz hs hp hd)
    | false=>exact path_seq_0_false a b v w0 w i p x z _ hx hz hl hp hw hv (Nat.le_trans hle (by omega)) (ia.hidW hz hs hp hd)
  | hand a b ia ib=>
    intro v w0 w i p x z hx hz hl hp hw hv;have hp:p∈wt a (i+1):=hp;have hin:=wt_in a _ p hp;have hs:i+1+sz a≤1000:=by simp only [sz] at hl; omega
    have hle:=pth_len a (i+1) p;rw [show pth (.hand a b) i p=pth a (i+1) p from by rw [pth,if_neg (by omega),if_pos hin.2]]
    cases hd:(pth a (i+1) p).2 with
    | true=>exact path_hand_0_true a b v w0 w i p x z _ hx hz hl hp hw hv (Nat.le_trans hle (by omega)) (ia.hidW hz hs hp hd)
    | false=>exact path_hand_0_false a b v w0 w i p x z _ hx hz hl hp hw hv (Nat.le_trans hle (by omega)) (ia.hidW hz hs hp hd)
  | going a b ia ib=>
    intro v w0 w i p x z hx hz hl hp hw hv;have hp:p∈wt a (i+1):=hp;have hin:=wt_in a _ p hp;have hs:i+1+sz a≤1000:=by simp only [sz] at hl; omega
    have hle:=pth_len a (i+1) p;rw [show pth (.going a b) i p=pth a (i+1) p from by rw [pth,if_neg (by omega),if_pos hin.2]]
    cases hd:(pth a (i+1) p).2 with
    | true=>exact path_going_0_true a b v w0 w i p x z _ hx hz hl hp hw hv (Nat.le_trans hle (by omega)) (ia.hidW hz hs hp hd)
    | false=>exact path_going_0_false a b v w0 w i p x z _ hx hz hl hp hw hv (Nat.le_trans hle (by omega)) (ia.hidW hz hs hp hd)
  | stack a b ia ib=>
    intro v w0 w i p x z hx hz hl hp hw hv;have hp:p∈wt a (i+1):=hp;have hin:=wt_in a _ p hp;have hs:i+1+sz a≤1000:=by simp only [sz] at hl; omega
    have hle:=pth_len a (i+1) p;rw [show pth (.stack a b) i p=pth a (i+1) p from by rw [pth,if_neg (by omega),if_pos hin.2]]
    cases hd:(pth a (i+1) p).2 with
    | true=>exact path_stack_0_true a b v w0 w i p x z _ hx hz hl hp hw hv (Nat.le_trans hle (by omega)) (ia.hidW hz hs hp hd)
    | false=>exact path_stack_0_false a b v w0 w i p x z _ hx hz hl hp hw hv (Nat.le_trans hle (by omega)) (ia.hidW hz hs hp hd)
  | block a ia=>
    intro v w0 w i p x z hx hz hl hp hw hv;have hp:p∈wt a (i+1):=hp;have hin:=wt_in a _ p hp;have hs:i+1+sz a≤1000:=by simp only [sz] at hl; omega
    have hle:=pth_len a (i+1) p;rw [show pth (.block a) i p=((pth a (i+1) p).1,true) from by rw [pth,if_neg (by omega)]]
    cases hd:(pth a (i+1) p).2 with
    | true=>exact path_block_0_true a v w0 w i p x z _ hx hz hl hp hw hv (Nat.le_trans hle (by omega)) (ia.hidW hz hs hp hd)
    | false=>exact path_block_0_false a v w0 w i p x z _ hx hz hl hp hw hv (Nat.le_trans hle (by omega)) (ia.hidW hz hs hp hd)
  | par a b ia ib=>
    intro v w0 w i p x z hx hz hl hp hw hv
    rcases List.mem_append.1 hp with hp | hp
    · have hin:=wt_in a _ p hp;have hs:i+1+sz a≤1000:=by simp only [sz] at hl; omega
      have hle:=pth_len a (i+1) p;rw [show pth (.par a b) i p=if (pth a (i+1) p).2 then pth a (i+1) p else ((pth a (i+1) p).1++[b],false) from by rw [pth,if_neg (by omega),if_pos hin.2]]
      cases hd:(pth a (i+1) p).2 with
      | true=>rw [if_pos rfl,hd]; exact path_par_0_true a b v w0 w i p x z _ hx hz hl hp hw hv (Nat.le_trans hle (by omega)) (ia.hidW hz hs hp hd)
      | false=>rw [if_neg (by simp)]; exact path_par_0_false a b v w0 w i p x z _ hx hz hl hp hw hv (Nat.le_trans hle (by omega)) (ia.hidW hz hs hp hd)
    · have hin:=wt_in b _ p hp;have hs:i+1+sz a+sz b≤1000:=by simp only [sz] at hl; omega
      have hle:=pth_len b (i+1+sz a) p;rw [show pth (.par a b) i p=if (pth b (i+1+sz a) p).2 then pth b (i+1+sz a) p else ((pth b (i+1+sz a) p).1++[a],false) from by rw [pth,if_neg (by omega),if_neg (by omega)]]
      cases hd:(pth b (i+1+sz a) p).2 with
      | true=>rw [if_pos rfl,hd]; exact path_par_1_true a b v w0 w i p x z _ hx hz hl hp hw hv (Nat.le_trans hle (by omega)) (ib.hidW hz hs hp hd)
      | false=>rw [if_neg (by simp)]; exact path_par_1_false a b v w0 w i p x z _ hx hz hl hp hw hv (Nat.le_trans hle (by omega)) (ib.hidW hz hs hp hd)
  | _=>intro v w0 w i p x z hx hz hl hp; exact absurd hp (by simp [wt])
end Go.Proofs.YtaapnkoooofalaaGreat.Do
