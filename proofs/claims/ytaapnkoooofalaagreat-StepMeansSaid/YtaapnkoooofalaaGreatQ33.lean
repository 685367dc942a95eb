/- Laws that the last text leans on. -/
import Derived.Test.YtaapnkoooofalaaGreatQ32
import Derived.Laws.ResultCell
import Derived.Laws.Rows
import Derived.Maps.Views
import Derived.Maps.OwnOps
import Derived.Lib.ItoaLen

set_option maxRecDepth 20000
set_option maxHeartbeats 4000000
namespace Go.Proofs.YtaapnkoooofalaaGreat
namespace Do
open Go Go.RowKit Rw So Se
theorem sub_at:∀ (t:Tm) (l:List Nd) (i:Nat),AtT l i t→∀ u,i≤u→u<i+sz t→∃ s,AtT l u s:=by
  have leaf:∀ {t:Tm},sz t=1→∀ (l:List Nd) (i:Nat),AtT l i t→∀ u,i≤u→u<i+sz t→∃ s,AtT l u s:=by
    intro t hs l i h u h1 h2;obtain rfl:u=i:=by omega
    exact ⟨t,h⟩
  have one:∀ {t a:Tm} {x:Nd},(∀ (l:List Nd) (i:Nat),AtT l i a→∀ u,i≤u→u<i+sz a→∃ s,AtT l u s)→flat t=x::flat a→sz t=1+sz a→∀ (l:List Nd) (i:Nat),AtT l i t→∀ u,i≤u→u<i+sz t→∃ s,AtT l u s:=by
    intro t a x ia e hs l i h u h1 h2;obtain ⟨_,ha⟩:=at_one h e
    by_cases hu:u=i
    · subst hu;exact ⟨t,h⟩
    · exact ia l (i+1) ha u (by omega) (by omega)
  have two:∀ {t a b:Tm} {x:Nd},(∀ (l:List Nd) (i:Nat),AtT l i a→∀ u,i≤u→u<i+sz a→∃ s,AtT l u s)→(∀ (l:List Nd) (i:Nat),AtT l i b→∀ u,i≤u→u<i+sz b→∃ s,AtT l u s)→flat t=x::(flat a++flat b)→sz t=1+sz a+sz b→
      ∀ (l:List Nd) (i:Nat),AtT l i t→∀ u,i≤u→u<i+sz t→∃ s,AtT l u s:=by
    intro t a b x ia ib e hs l i h u h1 h2;obtain ⟨_,ha,hb⟩:=z1t h e
    by_cases hu:u=i
    · subst hu;exact ⟨t,h⟩
    · by_cases hua:u<i+1+sz a
      · exact ia l (i+1) ha u (by omega) (by omega)
      · exact ib l (i+1+sz a) hb u (by omega) (by omega)
  intro t
  induction t with
  | fin s c ic=>exact one (x:=nEnd s) ic rfl (by simp only [sz]; omega)
  | block a ia=>exact one (x:=nOf 9) ia rfl (by simp only [sz]; omega)
  | seq a b ia ib=>exact two (x:=nOf 5) ia ib rfl (by simp only [sz]; omega)
  | hand a b ia ib=>exact two (x:=nOf 8) ia ib rfl (by simp only [sz]; omega)
  | going a b ia ib=>exact two (x:=nOf 12) ia ib rfl (by simp only [sz]; omega)
  | stack a b ia ib=>exact two (x:=nOf 13) ia ib rfl (by simp only [sz]; omega)
  | alt a b ia ib=>exact two (x:=nOf 6) ia ib rfl (by simp only [sz]; omega)
  | pair a b ia ib=>exact two (x:=nOf 10) ia ib rfl (by simp only [sz]; omega)
  | par a b ia ib=>exact two (x:=nOf 7) ia ib rfl (by simp only [sz]; omega)
  | _=>exact leaf rfl
theorem par_kids {l:List Nd} {u:Nat} {s:Tm} (h:AtT l u s) (h7:kiA l u=7):∃ A B,kids (l.drop u)=[A,B]∧u+1<l.length:=by
  cases s with
  | par a b=>
    obtain ⟨q,e⟩:=h.drop;obtain ⟨_,ha,_⟩:=z1t (x:=nOf 7) h rfl;have h1:=ha.lt;have h2:=z0l a;refine ⟨flat a,flat b,?_,by omega⟩;rw [e,show flat (.par a b)++q=nOf 7::(flat a++(flat b++q)) by simp [flat]];exact z6n a b q rfl
  | act s=>rw [z1s (z2d (x:=nAct s) h rfl)] at h7; simp at h7
  | skip=>rw [z1s (z2d (x:=nOf 2) h rfl)] at h7; simp [nOf] at h7
  | throw=>rw [z1s (z2d (x:=nOf 3) h rfl)] at h7; simp [nOf] at h7
  | yield=>rw [z1s (z2d (x:=nOf 4) h rfl)] at h7; simp [nOf] at h7
  | over s=>rw [z1s (z2d (x:=⟨11,⟨#[]⟩,s⟩) h rfl)] at h7; simp at h7
  | fin s c=>rw [z1s (at_one (x:=nEnd s) h rfl).1] at h7; simp at h7
  | block a=>rw [z1s (at_one (x:=nOf 9) h rfl).1] at h7; simp [nOf] at h7
  | seq a b=>rw [z1s (z1t (x:=nOf 5) h rfl).1] at h7; simp [nOf] at h7
  | hand a b=>rw [z1s (z1t (x:=nOf 8) h rfl).1] at h7; simp [nOf] at h7
  | going a b=>rw [z1s (z1t (x:=nOf 12) h rfl).1] at h7; simp [nOf] at h7
  | stack a b=>rw [z1s (z1t (x:=nOf 13) h rfl).1] at h7; simp [nOf] at h7
  | alt a b=>rw [z1s (z1t (x:=nOf 6) h rfl).1] at h7; simp [nOf] at h7
  | pair a b=>rw [z1s (z1t (x:=nOf 10) h rfl).1] at h7; simp [nOf] at h7
theorem x5a (l:List Nd):∀ (R:List Nat) (u:Nat),u∈(wth l R).1→u∈R
  | [],u,h=>by simp [wth] at h
  | x::r,u,h=>by
    rw [wth] at h
    split at h
    · cases h
    · rcases List.mem_cons.1 h with h | h
      · exact h ▸ List.mem_cons_self ..
      · exact List.mem_cons_of_mem _ (x5a l r u h)
theorem x5b (l:List Nd):∀ R:List Nat,(wth l R).1.length≤R.length
  | []=>Nat.le_refl _
  | x::r=>by
    rw [wth]
    split
    · exact Nat.zero_le _
    · have:=x5b l r;simp;exact this
def GotK (base:Nat) (w:World) (v:Value) (ls:List (List Nd)):Prop:=∃ cs,w.ownsRow base 22 1 v ls.length cs∧Rx.OwnK base v.ownBlock w cs ls∧base≤w.heap.size
theorem GotK.start {base:Nat} {w:World} (hb:base≤w.heap.size):GotK base w (.slice none 0 0) []:=⟨[],⟨rfl,.inl ⟨rfl,rfl⟩⟩,trivial,hb⟩
theorem GotK.below {base:Nat} {w w':World} {v:Value} {ls:List (List Nd)} (h:GotK base w v ls) (hb:Below w.heap.size w w'):GotK base w' v ls:=by
  obtain ⟨cs,h1,h2,h3⟩:=h;exact ⟨cs,Ap.own_below h1 hb,h2.below hb,Nat.le_trans h3 hb.size⟩
theorem GotK.slice {base:Nat} {w:World} {v:Value} {ls:List (List Nd)} (h:GotK base w v ls):∃ a c,v=.slice a ls.length c:=by
  obtain ⟨cs,h1,_⟩:=h;exact Rx.z3m h1
theorem GotK.rws {base:Nat} {w:World} {v:Value} {ls:List (List Nd)} (h:GotK base w v ls):Rws w v ls:=by
  obtain ⟨cs,h1,h2,_⟩:=h;exact ⟨cs,Ap.Rd.owned h1,OwnC.rwc (Rx.OwnK.ownC h2)⟩
theorem GotK.next {base:Nat} {wr w1:World} {v a:Value} {ls:List (List Nd)} {r:List Nd} (h:GotK base wr v ls) (ha:w1.ownsRow wr.heap.size 36 3 a r.length (cls r)) (hb1:Below wr.heap.size wr w1) (hl:ls.length≤100000) :
    ∃ v' w',(Builtin.append_ #[76,76] 76 #[v,.slice (some ⟨w1.heap.size,0,none⟩) 1 1]).run Tryz.prog (w1.alloc (.cells #[a] 22))=.ok v' w'∧GotK base w' v' (ls++[r])∧Below base w1 w':=by
  obtain ⟨cs,hown,hrw,hb⟩:=h.below hb1;obtain ⟨cs0,hown0,_,hb0⟩:=h;obtain ⟨i0,hi,hz,hs1,hb8⟩:=info_parts infoRw;obtain ⟨a1,k1,hsl⟩:=Rx.z3m ha
  obtain ⟨v',w',h1,h2,h3,h4,h5⟩:=Ap.z0w (P:=Tryz.prog) (ty:=76) Tryz.underlying76 hi hz hs1 hb8 (by rfl) (by omega) hown hb #[a] rfl
    (by intro u hu; simp at hu; subst hu; rw [hsl]; rfl) (by unfold maxLen; omega) (by omega)
  have hne:∀ g,a.ownBlock=some g→some g≠v.ownBlock:=by
    intro g hg e;have h1:=Ap.z6g hown0 g e.symm;obtain ⟨_,⟨rfl,_⟩ | ⟨g',_,_,rfl,hg',_⟩⟩:=ha
    · cases hg
    · have:g'=g:=Option.some.inj hg;omega
  refine ⟨v',w',h1,⟨cs++[a],by rw [List.length_append]; exact h2,(hrw.snoc (Ap.z3y ha hb0) hne).grow h3 h5,Nat.le_trans hb h4.size⟩,h4⟩
theorem bsd_next {l:List Nd} {p:Nat} {R:List Nat} {k:Nat} (hk:k<R.length):bsd l p (R.take (k+1))=bsd l p (R.take k)++(if kiA l R[k]=7 then [oth l p R[k]] else []):=by
  unfold bsd;rw [List.take_succ_eq_append_getElem hk,List.filterMap_append]
  congr 1
  by_cases h:kiA l R[k]=7
  · simp [h]
  · simp [h]
theorem x4m (b off c:Nat) (t:Tm) (p:Nat) (w:World) (hat:At w b off (flat t)) (hc:sz t≤c) (hl:sz t≤400) (hp:p<sz t)
    (hA:Calls Tryz.prog 146 #[.slice (some ⟨b,off,none⟩) (sz t) c,.int .i64 (p:Int)] w fun e w'=>e=.returned (.bool true)∧Below w.heap.size w w') :
    Calls Tryz.prog 149 #[.slice (some ⟨b,off,none⟩) (sz t) c,.int .i64 (p:Int)] w fun e w'=>∃ y,e=.returned y∧Rws w' y ((pth t 0 p).1.map flat)∧Below w.heap.size w w':=by
  have HA:=Lib.hid hA;have HWI:=Lib.hid (fun w1 (hb:Below w.heap.size w w1)=>y0q b off c t p w1 (z2e hat hb rfl) hc hl hp);have hup:=(up_all t (flat t) 0 p (AtT.self t) (Nat.zero_le _) (by omega)).1;have hfl:=Se.flat_len t;have HIN:Hid (∀ u∈(wth (flat t) (abv t 0 p).reverse).1,u<sz t):=Lib.hid fun u hu=>Nat.lt_trans (abv_in hp u (List.mem_reverse.1 (x5a _ _ _ hu))) hp
  have hRl:(wth (flat t) (abv t 0 p).reverse).1.length≤1000:=by
    refine Nat.le_trans (x5b _ _) ?_;rw [List.length_reverse,← x0k t hp];unfold Pl.ov;exact Nat.le_trans (List.length_filter_le _ _) (by simp; omega)
  have HOT:=Lib.hid (fun w1 (hb:Below w.heap.size w w1) u (hu:u<sz t) (h7:kiA (flat t) u=7)=>by
    obtain ⟨s,hs⟩:=sub_at t (flat t) 0 (AtT.self t) u (Nat.zero_le _) (by omega);obtain ⟨A,B,hk,hlt⟩:=par_kids hs h7;have:=x7i b off c (flat t) u p A B w1 (z2e hat hb rfl) (by omega) (by omega) hlt hk;rw [hfl] at this;exact this)
  rw [← hup];have HAT:=Lib.hid hat;obtain ⟨n,hn⟩:∃ n,sz t=n:=⟨_,rfl⟩
  obtain ⟨d,hd⟩:∃ d,(wth (flat t) (abv t 0 p).reverse).2=d:=⟨_,rfl⟩
  obtain ⟨R,hR⟩:∃ R,(wth (flat t) (abv t 0 p).reverse).1=R:=⟨_,rfl⟩
  obtain ⟨l,hlt⟩:∃ l,flat t=l:=⟨_,rfl⟩
  rw [hd,hR] at HWI;rw [hR] at HIN hRl ⊢;rw [hn] at HA HWI HIN HOT hfl hc hl ⊢;rw [hlt] at HAT HOT hfl ⊢;clear hA hat hup hd hR hlt hp hn
  go_enter Tryz.func149,Tryz.ntmps149
  go_wp2_with fail;refine HA.out.mono ?_;rintro e w1 ⟨rfl,hb1⟩;have D1:=Lib.hid hb1;clear hb1;go_wp2_with fail;refine (HWI.out _ D1.out).mono ?_;rintro e w2 ⟨y,rfl,hpl,hb2⟩;have D2:=Lib.hid (D1.out.trans (hb2.mono D1.out.size))
  rcases hpl.form with ⟨rfl,a,cap,rfl⟩ | ⟨bb,oo,cap,rfl,hap⟩
  · clear hpl hb2 HIN HOT hRl;go_wp2_with fail;refine Go.wp_loop_rounds 1 ?_;rw [rounds_succ];go_wp2_with fail;go_ret;exact ⟨_,rfl,Rws.below (GotK.start (Nat.le_refl _)).rws (Below.refl _ _),D2.out⟩
  · have AP:=Lib.hid hap;clear hpl hb2 hap;go_wp2_with fail
    go_loopw [5,22] (fun v i wr=>∃ k:Nat,k≤R.length∧i=.int .i64 k∧Hid (GotK w2.heap.size wr v (bsd l p (R.take k)))∧Hid (Below w2.heap.size w2 wr∧Below w.heap.size w wr)) (fun _ i _=>R.length-(intOf i).toNat)
    case atStart=>exact ⟨0,Nat.zero_le _,rfl,Lib.hid (GotK.start (Nat.le_refl _)),Lib.hid ⟨Below.refl _ _,D2.out⟩⟩
    case round=>
      obtain ⟨k,hk,rfl,HG,HB⟩:=hrel;obtain ⟨va,vc,hv⟩:=HG.out.slice;obtain ⟨m,hm⟩:∃ m,(bsd l p (R.take k)).length=m:=⟨_,rfl⟩
      have HM:Hid ((bsd l p (R.take k)).length≤100000):=Lib.hid (by
        unfold bsd;refine Nat.le_trans (List.length_filterMap_le _ _) ?_;rw [List.length_take];omega)
      rw [hm] at hv;subst hv;clear hm
      by_cases hlt:k<R.length
      · have e1:=AP.out k hlt;have c1:wr.cell? ⟨bb,oo+k,none⟩=some (.int .i64 (R[k]:Int)):=by rw [HB.out.1.cell (Ap.z0a e1)]; exact e1
        have hu:=HIN.out _ (List.getElem_mem hlt);have e2:=(HAT.out R[k] (by omega)).1;have c2:wr.cell? ⟨b,off+R[k]*3,none⟩=some (.int .i64 (l[R[k]]'(by omega)).k):=by rw [HB.out.2.cell (Ap.z0a e2)]; exact e2
        rw [← x8o (l:=l) (u:=R[k]) (by omega)] at c2;have HX:=Lib.hid (bsd_next (l:=l) (p:=p) hlt);have HO:=Lib.hid (fun (h7:kiA l (R[k]'hlt)=7)=>HOT.out wr HB.out.2 (R[k]'hlt) hu h7);obtain ⟨u,hu2⟩:∃ u,R[k]=u:=⟨_,rfl⟩
        rw [hu2] at c1 c2 HX HO hu;obtain ⟨q,hq⟩:∃ q,kiA l u=q:=⟨_,rfl⟩
        rw [hq] at c2 HX HO;have hui:(u:Int)<n:=by omega
        clear e1 e2 hu2 hq
        by_cases h7:q=7
        · subst h7;have HO2:=Lib.hid (HO.out rfl);have HX2:Hid (bsd l p (R.take (k+1))=bsd l p (R.take k)++[oth l p u]):=Lib.hid (by rw [HX.out,if_pos rfl]);clear HO HX;generalize oth l p u=O at HO2 HX2;go_wp2_with fail;refine HO2.out.mono ?_;rintro e w4 ⟨y4,rfl,hown,hb4⟩;obtain ⟨v',w',hrun,hg',hb'⟩:=HG.out.next hown hb4 HM.out;obtain ⟨a4,k4,rfl⟩:=Rx.z3m hown;have RUN:=Lib.hid hrun;have G':=Lib.hid hg';have hb5:Below w2.heap.size w2 w':=(HB.out.1.trans (hb4.mono HB.out.1.size)).trans hb';have B':Hid (Below w2.heap.size w2 w'∧Below w.heap.size w w'):=Lib.hid ⟨hb5,D2.out.trans (hb5.mono D2.out.size)⟩;clear hrun hg' hb' hown hb4 hb5;go_wp2_with (at_builtin; refine Ap.wpList_append_run (by rfl) _ _ _ _ rfl _ _ rfl rfl v' w' RUN.out ?_)
          go_roundw
          case rel=>exact ⟨k+1,by omega,by go_num,by rw [HX2.out]; exact G',B'⟩
          case measure=>simp [intOf]; omega
        · have g7:(q==7)=false:=beq_eq_false_iff_ne.2 h7;have HX2:Hid (bsd l p (R.take (k+1))=bsd l p (R.take k)):=Lib.hid (by rw [HX.out,if_neg h7,List.append_nil]);clear HO HX h7;go_wp2_with fail
          go_roundw
          case rel=>exact ⟨k+1,by omega,by go_num,by rw [HX2.out]; exact HG,HB⟩
          case measure=>simp [intOf]; omega
      · have hkl:k=R.length:=by omega
        subst hkl;rw [List.take_length] at HG;go_wp2_with fail;go_ret;exact ⟨_,rfl,HG.out.rws,HB.out.2⟩
end Do
namespace Me
open Go Go.RowKit Rw So Se Do
theorem flat_take {α β:Type} (f:α→List β) {V:List α} {k:Nat} (h:k<V.length):(V.take (k+1)).flatMap f=(V.take k).flatMap f++f V[k]:=by
  rw [List.take_succ_eq_append_getElem h,List.flatMap_append];simp
end Me
namespace St
open Go Go.RowKit Rw So Se Do Sp Me

end St
namespace Do
open Go Go.RowKit Rw So Se
theorem x4l (v:Value) (l:List Nd) (z:Int) (w:World) (hv:Nds w v l) (hA:Calls Tryz.prog 146 #[v,.int .i64 z] w fun e w'=>e=.returned (.bool false)∧Below w.heap.size w w') :
    Calls Tryz.prog 149 #[v,.int .i64 z] w fun e w'=>∃ y,e=.returned y∧Rws w' y []∧Below w.heap.size w w':=by
  have HA:=Lib.hid hA;obtain ⟨_,a,c,rfl,-⟩:=hv;clear hA
  go_enter Tryz.func149,Tryz.ntmps149
  go_wp2_with fail;refine HA.out.mono ?_;rintro e w1 ⟨rfl,hb1⟩;have D1:=Lib.hid hb1;clear hb1;go_wp2_with fail;go_ret;exact ⟨_,rfl,Rws.below (GotK.start (Nat.le_refl _)).rws (Below.refl _ _),D1.out⟩
theorem x1x (v:Value) (l:List Nd) (z:Int) (w:World) (hv:Nds w v l) (hl:l.length≤1000) (hm:Nms l) :
    Calls Tryz.prog 149 #[v,.int .i64 z] w fun e w'=>∃ y,e=.returned y∧Rws w' y (bs l z)∧Below w.heap.size w w':=by
  have hA:=z7p v l z w hv hl hm
  by_cases hz:z∈av l
  · rw [decide_eq_true hz] at hA
    have hs:setB l=true:=by
      cases hs:setB l with
      | true=>rfl
      | false=>rw [y9k hs] at hz; cases hz
    obtain ⟨t,rfl,hg,hn⟩:=z1c.1 hs;obtain ⟨k,hk,rfl⟩:=(y1f hg hn).1 hz;rw [bs_go hg hn hk];obtain ⟨b,off,c,rfl,hc,hat⟩:=y3s hv;exact x4m b off c t k w hat hc (by have:=hg.2.1; omega) (by have:=z0q t 0 k hk; omega) hA
  · rw [decide_eq_false hz] at hA;rw [bs_no hz];exact x4l v l z w hv hA
theorem any_bang {t:Tm} {k:Nat} (hg:Goes t) (hn:Nf t) (hk:k∈wt t 0):((pth t 0 k).1.map flat).any dm=(pth t 0 k).1.any bangT:=by
  have h:=x0g t 0 k hk hg hn;generalize (pth t 0 k).1=L at h ⊢
  induction L with
  | nil=>rfl
  | cons u L ih=>
    rw [List.map_cons,List.any_cons,List.any_cons,ih fun x hx=>h x (List.mem_cons_of_mem _ hx)];obtain ⟨h1,h2⟩:=h u (List.mem_cons_self ..);rw [dm_go h1 h2]
theorem x1g (v:Value) (l:List Nd) (z:Int) (w:World) (hv:Nds w v l) (hl:l.length≤1000) (hm:Nms l) :
    Calls Tryz.prog 101 #[v,.int .i64 z] w fun e w'=>e=.returned (.bool (fr l z))∧Below w.heap.size w w':=by
  have HA:=Lib.hid (z7p v l z w hv hl hm)
  by_cases hz:z∈av l
  · rw [decide_eq_true hz] at HA;have HB:=Lib.hid (fun w1 (hb:Below w.heap.size w w1)=>x1x v l z w1 (hv.below hb) hl hm)
    have hs:setB l=true:=by
      cases hs:setB l with
      | true=>rfl
      | false=>rw [y9k hs] at hz; cases hz
    obtain ⟨t,rfl,hg,hn⟩:=z1c.1 hs;obtain ⟨k,hk,rfl⟩:=(y1f hg hn).1 hz;rw [bs_go hg hn hk] at HB;rw [fr_go hg hn hk,← any_bang hg hn hk];obtain ⟨b,off,c,rfl,hc,hat⟩:=y3s hv;have hkt:k<sz t:=by have:=z0q t 0 k hk; omega
    have HWI:=Lib.hid (fun w1 (hb:Below w.heap.size w w1)=>y0q b off c t k w1 (z2e hat hb rfl) hc (by have:=hg.2.1; omega) hkt);rw [(up_all t (flat t) 0 k (AtT.self t) (Nat.zero_le _) (by omega)).2] at HWI;have eg:∀ args w,(callFunc 150 args).run Tryz.prog w=.ok (.enter 150 args) w:=enters_of Tryz.func150 (by kernel_rfl) rfl
    have HC:=Lib.hid (fun y w1 (hr:Rws w1 y ((pth t 0 k).1.map flat))=>y3z 150 eg dm y _ w1 hr (by rw [List.length_map]; have:=pth_len t 0 k; have:=hg.2.1; omega) fun r hr wr a hn'=>by
      obtain ⟨u,hu,rfl⟩:=List.mem_map.1 hr;obtain ⟨h1,h2⟩:=x0g t 0 k hk hg hn u hu;exact y6f a (flat u) wr hn' (by rw [Se.flat_len]; have:=h1.2.1; omega) (z3h h1.1))
    generalize ((pth t 0 k).1.map flat)=L at HB HC ⊢;generalize (pth t 0 k).2=d at HWI ⊢;generalize (wth (flat t) (abv t 0 k).reverse).1=R at HWI;generalize L.any dm=x at HC ⊢;generalize sz t=n at HA HB HWI;clear hv hat hs hz hg hn hk hl hm eg hkt
    cases d with
    | false=>
      go_enter Tryz.func101,Tryz.ntmps101
      go_wp2_with fail;refine HA.out.mono ?_;rintro e w1 ⟨rfl,hb1⟩;have D1:=Lib.hid hb1;clear hb1;go_wp2_with fail;refine (HWI.out _ D1.out).mono ?_;rintro e w2 ⟨y,rfl,hpl,hb2⟩;have D2:=Lib.hid (D1.out.trans (hb2.mono D1.out.size));clear hpl hb2;go_wp2_with fail;go_ret;exact ⟨rfl,D2.out⟩
    | true=>
      go_enter Tryz.func101,Tryz.ntmps101
      go_wp2_with fail;refine HA.out.mono ?_;rintro e w1 ⟨rfl,hb1⟩;have D1:=Lib.hid hb1;clear hb1;go_wp2_with fail;refine (HWI.out _ D1.out).mono ?_;rintro e w2 ⟨y,rfl,hpl,hb2⟩;have D2:=Lib.hid (D1.out.trans (hb2.mono D1.out.size));clear hpl hb2;go_wp2_with fail;refine (HB.out _ D2.out).mono ?_;rintro e w3 ⟨y3,rfl,hr3,hb3⟩;have D3:=Lib.hid (D2.out.trans (hb3.mono D2.out.size));have R3:=Lib.hid hr3;obtain ⟨_,⟨_,a3,c3,rfl,-⟩,-⟩:=id hr3;clear hr3 hb3;go_wp2_with fail;refine (HC.out _ _ R3.out).mono ?_;rintro e w4 ⟨rfl,hb4⟩;have D4:=Lib.hid (D3.out.trans (hb4.mono D3.out.size));clear hb4;go_wp2_with fail;go_ret;exact ⟨rfl,D4.out⟩
  · rw [decide_eq_false hz] at HA;rw [fr_no hz];obtain ⟨_,a,c,rfl,-⟩:=hv;clear hm hz
    go_enter Tryz.func101,Tryz.ntmps101
    go_wp2_with fail;refine HA.out.mono ?_;rintro e w1 ⟨rfl,hb1⟩;have D1:=Lib.hid hb1;clear hb1;go_wp2_with fail;go_ret;exact ⟨rfl,D1.out⟩
theorem con:Con where
  act:=z8h
  doom:=y6f
  bes:=x1x
  free:=x1g
end Do
namespace Me
open Go Go.RowKit Rw So Se Do
theorem x7v {x y:Mv}:x=y↔x.p=y.p∧x.h=y.h:=by
  cases x; cases y; simp
theorem eql_mv (d:Nat) (x y:Mv) (w:World):(Op.equalIn (d+2) 24 (.agg #[.int .i64 x.p,.int .i64 x.h]) (.agg #[.int .i64 y.p,.int .i64 y.h])).run Tryz.prog w=.ok (decide (x=y)) w:=by
  rw [run_equalIn_struct w (d+1) _ _ _ (by kernel_rfl) (by kernel_rfl)];simp only [Program.fieldsOf,Tryz.underlying24]
  by_cases h1:x.p=y.p
  · by_cases h2:x.h=y.h
    · rw [decide_eq_true (x7v.2 ⟨h1,h2⟩),h1,h2];simp [go_sem,Op.eqFields]
    · rw [decide_eq_false (fun e=>h2 (x7v.1 e).2),h1];simp [go_sem,Op.eqFields,h2]
  · rw [decide_eq_false (fun e=>h1 (x7v.1 e).1)];simp [go_sem,Op.eqFields,h1]
theorem eq_mv (x y:Mv) (w:World):(binOp .eql 24 (.agg #[.int .i64 x.p,.int .i64 x.h]) (.agg #[.int .i64 y.p,.int .i64 y.h])).run Tryz.prog w=.ok (.bool (decide (x=y))) w:=by
  rw [run_eql_struct,show (10000:Nat)=9998+2 from rfl,eql_mv]
  rfl
end Me
namespace St
open Go Go.RowKit Rw So Se Do Sp Me
theorem x0e (v vx:Value) (l x:List Nd) (z:Int) (w:World) (hv:Nds w v l) (hx:Nds w vx x) (hl:l.length≤1000) (hxl:x.length≤1000) :
    Calls Tryz.prog 23 #[v,.int .i64 z,vx] w fun e w'=>∃ y,e=.returned y∧w'.ownsRow w.heap.size 36 3 y (putR l z x).length (cls (putR l z x))∧Below w.heap.size w w':=by
  by_cases h0:szA l z=0
  · have e:putR l z x=l:=by
      unfold putR;unfold szA at h0
      split
      · rfl
      · rename_i h
        rw [if_neg h] at h0;exact if_pos h0
    rw [e];exact x6p v vx l x z w hv hx hl h0
  · have hb:¬ (z<0∨z≥l.length):=fun h=>h0 (if_pos h)
    obtain ⟨q,rfl⟩:∃ q:Nat,z=(q:Int):=⟨z.toNat,by omega⟩
    have e0:szA l (q:Int)=size (l.drop q):=if_neg hb
    have e:putR l (q:Int) x=l.take q++x++l.drop (q+size (l.drop q)):=by
      unfold putR;rw [if_neg hb]
      show putN l q x=_
      exact if_neg (by rw [← e0]; exact h0)
    rw [e];have hS:=y0x v l (q:Int) w hv hl;rw [e0] at hS h0;have hsz:=size_le (l.drop q);rw [List.length_drop] at hsz
    rcases hv.form with ⟨h1,_⟩ | ⟨b,o,c,rfl,hc,hat⟩
    · rw [h1] at hb; simp at hb
    · exact x6o b o c l.length x.length (q+x.length+(l.length-(q+size (l.drop q)))) q (size (l.drop q)) (q+size (l.drop q)) vx (l.take q) x (l.drop (q+size (l.drop q))) w _ rfl
        (fun w1 hb1=>(take_nds rfl hat q (by omega) hc).below hb1) (fun w1 hb1=>hx.below hb1) (fun _ w1 hb1=>(y3w rfl hat _ (by omega) hc).below hb1)
        (by rw [List.length_take]; omega) rfl (by rw [List.length_drop]) (by omega) (by omega) rfl (by omega) hc rfl hl hxl hS
def FnV (w:World) (f:Value) (ls:List (List Nd)) (X:List Nd):Prop:=
  ∃ fn caps,f=.func (.func fn) #[] caps∧(∀ args w,(callFunc fn args).run Tryz.prog w=.ok (.enter fn args) w)∧
    ∀ w1 y,Below w.heap.size w w1→Rws w1 y ls→Calls Tryz.prog fn (#[y]++caps) w1 fun e w'=>∃ y',e=.returned y'∧Nds w' y' X∧Below w1.heap.size w1 w'
theorem FnV.below {w w':World} {f:Value} {ls:List (List Nd)} {X:List Nd} (h:FnV w f ls X) (hb:Below w.heap.size w w'):FnV w' f ls X:=by
  obtain ⟨fn,caps,e,eg,H⟩:=h;exact ⟨fn,caps,e,eg,fun w1 y hb1 hy=>H w1 y (hb.trans (hb1.mono hb.size)) hy⟩
def OutF (w:World) (ls:List (List Nd)) (X:List Nd) (e:Ending) (w':World):Prop:=∃ f,e=.returned f∧FnV w' f ls X∧Below w.heap.size w w'
theorem rws_get {w:World} {y:Value} {ls:List (List Nd)} (h:Rws w y ls) (k:Nat) (hk:k<ls.length):∃ b o c a,y=.slice (some ⟨b,o,none⟩) ls.length c∧w.cell? ⟨b,o+k,none⟩=some a∧Nds w a (ls.getD k []):=by
  rcases Rx.rws_form h with ⟨rfl,_⟩ | ⟨b,o,c,rfl,hat⟩
  · simp at hk
  · obtain ⟨a,h1,h2⟩:=hat k hk;refine ⟨b,o,c,a,rfl,h1,?_⟩
    rwa [List.getD_eq_getElem?_getD,List.getElem?_eq_getElem hk,Option.getD_some]
theorem kid1_any (k B:Nat) (y:Value) (ls:List (List Nd)) (w:World) (hB:w.cell? ⟨B,0,none⟩=some (.int .i64 (k:Int))) (hy:Rws w y ls) (hk:k<ls.length) :
    Calls Tryz.prog 82 #[y,.pointer (some ⟨B,0,none⟩)] w fun e w'=>∃ y',e=.returned y'∧Nds w' y' (ls.getD k [])∧Below w.heap.size w w':=by
  obtain ⟨b,o,c,a,rfl,h1,h2⟩:=rws_get hy k hk;obtain ⟨_,aa,cc,rfl,-⟩:=id h2;have H2:=Lib.hid h2;clear hy h2;generalize (ls.getD k []).length=m at *
  go_enter Tryz.func82,Tryz.ntmps82
  go_wp2_with fail;go_ret;exact ⟨_,rfl,H2.out,Below.refl _ _⟩
theorem kid_any (k:Nat) (ls:List (List Nd)) (w:World) (hk:k<ls.length) :
    Calls Tryz.prog 51 #[.int .i64 (k:Int)] w (OutF w ls (ls.getD k [])):=by
  have eg:∀ args w,(callFunc 82 args).run Tryz.prog w=.ok (.enter 82 args) w:=enters_of Tryz.func82 (by kernel_rfl) rfl;have hb:=z0f w (.cells #[.int .i64 (k:Int)] 3);have hc:(w.alloc (.cells #[.int .i64 (k:Int)] 3)).cell? ⟨w.heap.size,0,none⟩=some (.int .i64 (k:Int)):=by rw [World.cell?_alloc_new]; rfl
  have F:Hid (FnV (w.alloc (.cells #[.int .i64 (k:Int)] 3)) (.func (.func 82) #[] #[.pointer (some ⟨w.heap.size,0,none⟩)]) ls (ls.getD k [])):=Lib.hid ⟨_,_,rfl,eg,fun w1 y hb1 hy=>kid1_any k _ y ls w1 (by rw [hb1.cell (Ap.z0a hc)]; exact hc) hy hk⟩;have D:=Lib.hid hb;have hmf:∀ fn first cap w,(Instr.makeFunc fn first cap).run Tryz.prog w=.ok (.func fn first cap) w:=fun _ _ _ _=>rfl
  clear eg hb hc;unfold OutF
  go_enter Tryz.func51,Tryz.ntmps51
  go_wp2_with fail;go_ret;exact ⟨_,rfl,F.out,D.out⟩
theorem y9m (B:Nat) (y s:Value) (X:List Nd) (w:World) (hB:w.cell? ⟨B,0,none⟩=some s) (hs:Nds w s X) (hy:∃ a n c,y=.slice a n c) :
    Calls Tryz.prog 60 #[y,.pointer (some ⟨B,0,none⟩)] w fun e w'=>∃ y',e=.returned y'∧Nds w' y' X∧Below w.heap.size w w':=by
  obtain ⟨a,n,c,rfl⟩:=hy;obtain ⟨_,aa,cc,rfl,-⟩:=id hs;have H:=Lib.hid hs;clear hs;generalize X.length=m at *
  go_enter Tryz.func60,Tryz.ntmps60
  go_wp2_with fail;go_ret;exact ⟨_,rfl,H.out,Below.refl _ _⟩
theorem z8t {w:World} {y:Value} {ls:List (List Nd)} (h:Rws w y ls):∃ a n c,y=.slice a n c:=by
  obtain ⟨cs,⟨_,a,c,rfl,-⟩,-⟩:=h;exact ⟨_,_,_,rfl⟩
theorem always_any (s:Value) (X:List Nd) (ls:List (List Nd)) (w:World) (hs:Nds w s X) :
    Calls Tryz.prog 31 #[s] w (OutF w ls X):=by
  have eg:∀ args w,(callFunc 60 args).run Tryz.prog w=.ok (.enter 60 args) w:=enters_of Tryz.func60 (by kernel_rfl) rfl;obtain ⟨_,aa,cc,rfl,-⟩:=id hs;obtain ⟨m,hm⟩:∃ m,X.length=m:=⟨_,rfl⟩
  rw [hm] at hs ⊢;have hb:=z0f w (.cells #[.slice aa m cc] 22);have hc:(w.alloc (.cells #[.slice aa m cc] 22)).cell? ⟨w.heap.size,0,none⟩=some (.slice aa m cc):=by rw [World.cell?_alloc_new]; rfl
  have F:Hid (FnV (w.alloc (.cells #[.slice aa m cc] 22)) (.func (.func 60) #[] #[.pointer (some ⟨w.heap.size,0,none⟩)]) ls X):=Lib.hid ⟨_,_,rfl,eg,fun w1 y hb1 hy=>y9m _ y _ X w1 (by rw [hb1.cell (Ap.z0a hc)]; exact hc) ((hs.below hb).below hb1) (z8t hy)⟩;have D:=Lib.hid hb;have hmf:∀ fn first cap w,(Instr.makeFunc fn first cap).run Tryz.prog w=.ok (.func fn first cap) w:=fun _ _ _ _=>rfl
  clear eg hb hc hs hm;unfold OutF
  go_enter Tryz.func31,Tryz.ntmps31
  go_wp2_with fail;go_ret;exact ⟨_,rfl,F.out,D.out⟩
theorem v1g (y:Value) (ls:List (List Nd)) (w:World) (hy:Rws w y ls) (hl:ls.length≤1000) (hf:ls.flatten.length≤1000000) :
    Calls Tryz.prog 52 #[y] w fun e w'=>∃ y',e=.returned y'∧Nds w' y' (nOf 12::ls.flatten)∧Below w.heap.size w w':=by
  have HM:=Lib.hid (Rx.y5m (nOf 12) y ls w hy hl hf);obtain ⟨L,hL⟩:∃ L,nOf 12::ls.flatten=L:=⟨_,rfl⟩
  rw [hL] at HM ⊢;obtain ⟨a,n,c,rfl⟩:=z8t hy;clear hy hL hf
  go_enter Tryz.func52,Tryz.ntmps52
  go_wp2_with fail;refine HM.out.mono ?_;rintro e w1 ⟨y1,rfl,hn,hb⟩;have N1:Hid (Nds w1 y1 L):=Lib.hid hn.rd;have D:=Lib.hid hb;obtain ⟨_,a1,c1,rfl,-⟩:=id N1.out;clear hn hb;go_wp2_with fail;go_ret;exact ⟨_,rfl,N1.out,D.out⟩
end St
namespace Me
open Go Go.RowKit Rw So Se Do
abbrev mvV (m:Mv):Value:=.agg #[.int .i64 m.p,.int .i64 m.h]
def Bm (w:World) (b:Nat) (m:Mv):Prop:=w.heap[b]?=some (.cells #[.int .i64 m.p,.int .i64 m.h] 24 (0,0))
theorem Bm.new (w:World) (m:Mv):Bm (w.alloc (.cells #[.int .i64 m.p,.int .i64 m.h] 24)) w.heap.size m:=by
  show (w.heap.push _)[w.heap.size]?=some _
  simp
theorem Bm.lt {w:World} {b:Nat} {m:Mv} (h:Bm w b m):b<w.heap.size:=Nat.lt_of_not_le fun hle=>by
  unfold Bm at h;rw [Array.getElem?_eq_none hle] at h
  cases h
theorem Bm.below {w w':World} {M b:Nat} {m:Mv} (h:Bm w b m) (hb:Below M w w') (hM:b<M):Bm w' b m:=(hb.block b hM).trans h
theorem Bm.cells {w:World} {b:Nat} {m:Mv} (h:Bm w b m):w.cell? ⟨b,0,none⟩=some (.int .i64 m.p)∧w.cell? ⟨b,1,none⟩=some (.int .i64 m.h)∧w.frozen? ⟨b,0,none⟩=false∧w.frozen? ⟨b,1,none⟩=false:=by
  unfold Bm at h;simp [World.cell?,World.frozen?,h]
abbrev put2 (w:World) (b:Nat) (x y:Value):World:=(w.setCell ⟨b,0,none⟩ x).setCell ⟨b,1,none⟩ y
end Me
namespace St
open Go Go.RowKit Rw So Se Do Sp Me
def mdK (ls:List (List Nd)) (kk h:Int):List Nd:=
  if h=2 then ls.getD 0 [] else if h=3 then ls.getD 1 [] else if h=4∧kk=10 then nOf 12::(ls.getD 0 []++ls.getD 1 []) else if h=5∧kk=10 then [nEnd 3,nOf 2] else if h=5 then [⟨11,⟨#[]⟩,3⟩] else [⟨11,⟨#[]⟩,1⟩]
theorem mdR_K (L:List Nd) (h:Int):mdR L h=mdK (kids L) (kn L 0) h:=rfl
def Way (kk h:Int):Prop:=(kk=1∧h=1)∨(kk=4∧h=4)∨(kk=4∧h=5)∨(kk=6∧h=2)∨(kk=6∧h=3)∨(kk=10∧h=4)∨(kk=10∧h=5)
theorem x1m (kk:Int) (k:Nat) (h:Int) (hh:(h=2∧k=0)∨(h=3∧k=1)) (ls:List (List Nd)) (w:World) (h2:ls.length=2) :
    Calls Tryz.prog 26 #[.int .i64 kk,.int .i64 h] w (OutF w ls (ls.getD k [])):=by
  have HK:=Lib.hid (fun w1=>kid_any k ls w1 (by omega));unfold OutF at *
  rcases hh with ⟨rfl,rfl⟩ | ⟨rfl,rfl⟩
  all_goals
    clear h2
    go_enter Tryz.func26,Tryz.ntmps26
    go_wp2_with fail;refine (HK.out _).mono ?_;rintro e w1 ⟨f,rfl,hf,hb⟩;have D:=Lib.hid hb;have F:=Lib.hid hf;obtain ⟨fn,caps,rfl,-⟩:=id hf;clear hb hf;go_wp2_with fail;go_ret;exact ⟨_,rfl,F.out,D.out⟩
theorem x4b (ls:List (List Nd)) (w:World) (h2:ls.length=2) (hf:ls.flatten.length≤1000000) :
    Calls Tryz.prog 26 #[.int .i64 10,.int .i64 4] w (OutF w ls (nOf 12::(ls.getD 0 []++ls.getD 1 []))):=by
  have eg:∀ args w,(callFunc 52 args).run Tryz.prog w=.ok (.enter 52 args) w:=enters_of Tryz.func52 (by kernel_rfl) rfl
  have e:nOf 12::(ls.getD 0 []++ls.getD 1 [])=nOf 12::ls.flatten:=by
    obtain ⟨a,b,rfl⟩:∃ a b,ls=[a,b]:=by
      match ls,h2 with
      | [a,b],_=>exact ⟨a,b,rfl⟩
    simp
  rw [e];have F:Hid (FnV w (.func (.func 52) #[] #[]) ls (nOf 12::ls.flatten)):=Lib.hid ⟨_,_,rfl,eg,fun w1 y _ hy=>v1g y ls w1 hy (by omega) hf⟩;clear eg e h2 hf;unfold OutF
  go_enter Tryz.func26,Tryz.ntmps26
  go_wp2_with fail;go_ret;exact ⟨_,rfl,F.out,Below.refl _ _⟩
theorem y0d (kk h sg:Int) (hh:(kk=1∧h=1∧sg=1)∨(kk=4∧h=4∧sg=1)∨(kk=4∧h=5∧sg=3)) (ls:List (List Nd)) (w:World) :
    Calls Tryz.prog 26 #[.int .i64 kk,.int .i64 h] w (OutF w ls [⟨11,⟨#[]⟩,sg⟩]):=by
  have HA:=Lib.hid (fun s w1 hs=>always_any s [⟨11,⟨#[]⟩,sg⟩] ls w1 hs);have N:=Lib.hid (Se.z3a w [⟨11,⟨#[]⟩,sg⟩] 36);have B:=Lib.hid (z0f w (.cells (cls [(⟨11,⟨#[]⟩,sg⟩:Nd)]).toArray 36));unfold OutF at *
  rcases hh with ⟨rfl,rfl,rfl⟩ | ⟨rfl,rfl,rfl⟩ | ⟨rfl,rfl,rfl⟩
  all_goals
    go_enter Tryz.func26,Tryz.ntmps26
    go_wp2_with fail;refine (HA.out _ _ N.out).mono ?_;rintro e w1 ⟨f,rfl,hf,hb⟩;have D:=Lib.hid (B.out.trans (hb.mono B.out.size));have F:=Lib.hid hf;obtain ⟨fn,caps,rfl,-⟩:=id hf;clear hb hf;go_wp2_with fail;go_ret;exact ⟨_,rfl,F.out,D.out⟩
theorem v0l (ls:List (List Nd)) (w:World) :
    Calls Tryz.prog 26 #[.int .i64 10,.int .i64 5] w (OutF w ls [nEnd 3,nOf 2]):=by
  have HA:=Lib.hid (fun s w1 hs=>always_any s [nEnd 3,nOf 2] ls w1 hs);have N:=Lib.hid (Se.z3a w [nEnd 3,nOf 2] 36);have B:=Lib.hid (z0f w (.cells (cls [nEnd 3,nOf 2]).toArray 36));unfold OutF at *
  go_enter Tryz.func26,Tryz.ntmps26
  go_wp2_with fail;refine (HA.out _ _ N.out).mono ?_;rintro e w1 ⟨f,rfl,hf,hb⟩;have D:=Lib.hid (B.out.trans (hb.mono B.out.size));have F:=Lib.hid hf;obtain ⟨fn,caps,rfl,-⟩:=id hf;clear hb hf;go_wp2_with fail;go_ret;exact ⟨_,rfl,F.out,D.out⟩
theorem done_any (kk h:Int) (hh:Way kk h) (ls:List (List Nd)) (w:World) (h2:kk≠1→kk≠4→ls.length=2) (hf:ls.flatten.length≤1000000) :
    Calls Tryz.prog 26 #[.int .i64 kk,.int .i64 h] w (OutF w ls (mdK ls kk h)):=by
  rcases hh with ⟨rfl,rfl⟩ | ⟨rfl,rfl⟩ | ⟨rfl,rfl⟩ | ⟨rfl,rfl⟩ | ⟨rfl,rfl⟩ | ⟨rfl,rfl⟩ | ⟨rfl,rfl⟩
  · exact y0d 1 1 1 (.inl ⟨rfl,rfl,rfl⟩) ls w
  · exact y0d 4 4 1 (.inr (.inl ⟨rfl,rfl,rfl⟩)) ls w
  · exact y0d 4 5 3 (.inr (.inr ⟨rfl,rfl,rfl⟩)) ls w
  · exact x1m 6 0 2 (.inl ⟨rfl,rfl⟩) ls w (h2 (by decide) (by decide))
  · exact x1m 6 1 3 (.inr ⟨rfl,rfl⟩) ls w (h2 (by decide) (by decide))
  · exact x4b ls w (h2 (by decide) (by decide)) hf
  · exact v0l ls w
theorem kids_rws (v:Value) (l:List Nd) (w:World) (hv:Nds w v l) (hl:l.length≤1000000) :
    Calls Tryz.prog 50 #[v] w fun e w'=>∃ y,e=.returned y∧Rws w' y (kids l)∧Below w.heap.size w w':=by
  refine (Rx.z9r v l w hv hl).mono ?_;rintro e w' ⟨y,cs,rfl,h1,h2,hb⟩;exact ⟨y,rfl,⟨cs,h1.rd,h2.rwc⟩,hb⟩
theorem y6z (v f:Value) (l X:List Nd) (q:Nat) (w:World) (hv:Nds w v l) (hl:l.length≤400) (hX:X.length≤400) (hq:q<l.length) (hf:FnV w f (kids (l.drop q)) X) (hm:Nms (putR l (q:Int) X)) (hp:(putR l (q:Int) X).length≤1000) :
    Calls Tryz.prog 25 #[v,.int .i64 (q:Int),f] w (OutL (st (putR l (q:Int) X)) w):=by
  unfold OutL
  rcases hv.form with ⟨h0,_⟩ | ⟨b,o,c,rfl,hc,hat⟩
  · rw [h0] at hq; simp at hq
  have HK:=Lib.hid (kids_rws _ (l.drop q) w (y3w rfl hat q (by omega) hc) (by simp; omega));have HP:=Lib.hid (fun vx w1 (hb:Below w.heap.size w w1) (hx:Nds w1 vx X)=>x0e _ vx l X (q:Int) w1 (hv.below hb) hx (by omega) (by omega));have HS:=Lib.hid (fun y w1 (hy:Nds w1 y (putR l (q:Int) X))=>z8r y _ w1 hy hp hm);unfold OutL at HS;obtain ⟨fn,caps,rfl,eg,H⟩:=hf;have HH:=Lib.hid H;obtain ⟨n,hn⟩:∃ n,l.length=n:=⟨_,rfl⟩
  rw [hn] at HK HP hq hc ⊢;have hcap:q<c:=by omega
  have hcq:¬ c=q:=by omega
  generalize putR l (q:Int) X=L at HP HS ⊢;clear hv hat hn hl hX hm hp H
  go_enter Tryz.func25,Tryz.ntmps25
  go_wp2_with fail;refine HK.out.mono ?_;rintro e w1 ⟨y1,rfl,h1,hb1⟩;have D1:=Lib.hid hb1;have R1:=Lib.hid h1;obtain ⟨a1,n1,c1,rfl⟩:=z8t h1;clear h1 hb1;go_wp2_with fail;refine (HH.out _ _ D1.out R1.out).mono ?_;rintro e w2 ⟨y2,rfl,h2,hb2⟩;have D2:=Lib.hid (D1.out.trans (hb2.mono D1.out.size));have N2:=Lib.hid h2;obtain ⟨_,a2,c2,rfl,-⟩:=id h2;clear h2 hb2;go_wp2_with fail;refine (HP.out _ _ D2.out N2.out).mono ?_;rintro e w3 ⟨y3,rfl,h3,hb3⟩;have D3:=Lib.hid (D2.out.trans (hb3.mono D2.out.size));have N3:Hid (Nds w3 y3 L):=Lib.hid (Ap.Rd.owned h3);obtain ⟨_,a3,c3,rfl,-⟩:=id N3.out;clear h3 hb3;go_wp2_with fail;refine (HS.out _ _ N3.out).mono ?_;rintro e w4 ⟨y4,rfl,h4,hb4⟩;have D4:=Lib.hid (D3.out.trans (hb4.mono D3.out.size));have N4:=Lib.hid h4;obtain ⟨_,a4,c4,rfl,-⟩:=id h4;clear h4 hb4;go_wp2_with fail;go_ret;exact ⟨_,rfl,N4.out,D4.out⟩
end St
namespace Me
open Go Go.RowKit Go.Maps Go.WideMaps Rw So Se Do
def hE (v:Value):Option (DataW Value × List MemPlace):=some (.held v,[])
theorem lawI:Keyed Tryz.prog 3:=int_keyed Tryz.underlying3
theorem keyI (k:Int) (h:(Lit.int .i64 k).wf=true):keyOf Tryz.prog 3 (.int .i64 k)=some (.int .i64 k):=keyOf_int_mk Tryz.underlying3 h
theorem zeroW (w:World):(zeroValue 86).run Tryz.prog w=.ok (.slice none 0 0) w:=by kernel_rfl
def WD (f:Int→Value) (D:DataW Value):Prop:=∀ k:Int,D.atKey (.int .i64 k) (.held (.slice none 0 0))=.held (f k)
theorem look {w:World} {b n:Nat} {f:Int→Value} {D:DataW Value} (h:w.ownsMap Tryz.prog 3 hE b n D) (hd:WD f D) (k:Int) (hk:(Lit.int .i64 k).wf=true) :
    (Instr.lookup 87 (.map (some b)) (.int .i64 k) false).run Tryz.prog w=.ok (f k) w:=by
  obtain ⟨v,ps,hrun,hv⟩:=h.lookup lawI Tryz.underlying87 (zeroW w) (show hE (.slice none 0 0)=some (.held (.slice none 0 0),[]) from rfl) (keyI k hk);rw [hd k] at hv;rw [hrun];injection hv with hv;injection hv with hv;injection hv with hv;rw [hv]
end Me
namespace Me
open Go Go.RowKit Rw So Se Do
abbrev tx (L:List UInt8):ByteArray:=⟨L.toArray⟩
def idxM (x:Mv):List Mv→Nat→Int
  | [],_=>-1
  | y::l,k=>if x=y then k else idxM x l (k+1)
theorem idxM_mem (x:Mv) (l:List Mv) (k:Nat):decide (0≤idxM x l k)=decide (x∈l):=by
  induction l generalizing k with
  | nil=>simp [idxM]
  | cons y l ih=>
    unfold idxM
    by_cases h:x=y
    · rw [if_pos h,decide_eq_true (show x∈y::l by rw [h]; exact List.mem_cons_self)];simp
    · rw [if_neg h,ih (k+1)];simp [h]
theorem idxM_end {x:Mv} {l:List Mv} {k:Nat} (h:¬ k<l.length):idxM x (l.drop k) k=-1:=by rw [List.drop_eq_nil_of_le (by omega)]; rfl
theorem idxM_at {x:Mv} {l:List Mv} {k:Nat} (h:k<l.length):idxM x (l.drop k) k=if x=l[k] then (k:Int) else idxM x (l.drop (k+1)) (k+1):=by
  rw [List.drop_eq_getElem_cons h,idxM]
theorem x3n (a:Option Addr) (cap:Nat) (xp xh:Int) (w:World) :
    Calls Tryz.prog 80 #[.slice a 0 cap,.agg #[.int .i64 xp,.int .i64 xh]] w fun e w'=>e=.returned (.int .i64 (-1))∧Below w.heap.size w w':=by
  go_enter Tryz.func80,Tryz.ntmps80
  go_wp2_with fail;refine Go.wp_loop_rounds 1 ?_;rw [rounds_succ];go_wp2_with fail;go_ret;exact ⟨rfl,z0f _ _⟩
theorem x3o (b off cap:Nat) (l:List Mv) (x:Mv) (w:World) (hat:AtM w b off l) (hl:l.length≤1000000) :
    Calls Tryz.prog 80 #[.slice (some ⟨b,off,none⟩) l.length cap,mvV x] w fun e w'=>e=.returned (.int .i64 (idxM x l 0))∧Below w.heap.size w w':=by
  obtain ⟨xp,xh⟩:=x;have HA:=Lib.hid (hat.below (z0f w (.cells #[.int .i64 xp,.int .i64 xh] 24)));have HB0:=Lib.hid (Bm.new w ⟨xp,xh⟩);have DB:=Lib.hid (z0f w (.cells #[.int .i64 xp,.int .i64 xh] 24));obtain ⟨wB,hwB⟩:∃ wB,w.alloc (.cells #[.int .i64 xp,.int .i64 xh] 24)=wB:=⟨_,rfl⟩
  obtain ⟨bM,hbM⟩:∃ bM,w.heap.size=bM:=⟨_,rfl⟩
  have HS:Hid (w.heap.size≤wB.heap.size):=Lib.hid (by rw [← hwB]; simp);change Hid (Bm (w.alloc (.cells #[.int .i64 xp,.int .i64 xh] 24)) w.heap.size ⟨xp,xh⟩) at HB0;rw [hwB] at HA HB0 DB;rw [hbM] at HB0;clear hat
  go_enter Tryz.func80,Tryz.ntmps80
  go_wp2_with fail;clear hwB
  go_loopw [8] (fun i wr=>∃ k:Nat,k≤l.length∧i=.int .i64 k∧Hid (Below wB.heap.size wB wr)∧Hid (idxM ⟨xp,xh⟩ l 0=idxM ⟨xp,xh⟩ (l.drop k) k)) (fun i _=>l.length-(intOf i).toNat)
  case atStart=>exact ⟨0,Nat.zero_le _,rfl,Lib.hid (Below.refl _ _),Lib.hid rfl⟩
  case round=>
    obtain ⟨k,hk,rfl,HB,HK⟩:=hrel
    by_cases hlt:k<l.length
    · obtain ⟨e1,e2⟩:=(HA.out.below HB.out) k hlt;obtain ⟨m1,m2,-⟩:=(HB0.out.below HB.out HB0.out.lt).cells;have HX:=Lib.hid (HK.out.trans (idxM_at hlt));obtain ⟨y,hy⟩:∃ y,l[k]=y:=⟨_,rfl⟩
      rw [hy] at e1 e2 HX;clear hy;obtain ⟨yp,yh⟩:=y;simp only at e1 e2 m1 m2;have hq:∀ w,(binOp .eql 24 (.agg #[.int .i64 xp,.int .i64 xh]) (.agg #[.int .i64 yp,.int .i64 yh])).run Tryz.prog w=.ok (.bool (decide ((⟨xp,xh⟩:Mv)=⟨yp,yh⟩))) w:=fun w=>eq_mv ⟨xp,xh⟩ ⟨yp,yh⟩ w
      by_cases hxy:(⟨xp,xh⟩:Mv)=⟨yp,yh⟩
      · rw [if_pos hxy] at HX;rw [decide_eq_true hxy] at hq;clear hxy;go_wp2_with fail
        go_quiet (fail)
        go_wp2_with fail;go_ret;exact ⟨ret_int HX.out.symm,DB.out.trans ((HB.out.trans (Below.drewN _ _ _)).mono HS.out)⟩
      · rw [if_neg hxy] at HX;rw [decide_eq_false hxy] at hq;clear hxy;go_wp2_with fail
        go_quiet (fail)
        go_wp2_with fail
        go_roundw
        case rel=>exact ⟨k+1,by omega,by go_num,Lib.hid (HB.out.trans (Below.drewN _ _ _)),HX⟩
        case measure=>simp [intOf]; omega
    · have HZ:Hid (idxM ⟨xp,xh⟩ l 0=-1):=Lib.hid (by rw [HK.out,idxM_end hlt]);go_wp2_with fail;go_ret;exact ⟨ret_int HZ.out.symm,DB.out.trans (HB.out.mono HS.out)⟩
theorem idxM_any (v:Value) (l:List Mv) (x:Mv) (w:World) (h:Mvs w v l) (hl:l.length≤1000000) :
    Calls Tryz.prog 80 #[v,mvV x] w fun e w'=>e=.returned (.int .i64 (idxM x l 0))∧Below w.heap.size w w':=by
  rcases h.form with ⟨rfl,a,cap,rfl⟩ | ⟨b,off,cap,rfl,_,hat⟩
  · exact x3n a cap x.p x.h w
  · exact x3o b off cap l x w hat hl
theorem hasM_any (v:Value) (l:List Mv) (x:Mv) (w:World) (h:Mvs w v l) (hl:l.length≤1000000) :
    Calls Tryz.prog 49 #[v,mvV x] w fun e w'=>e=.returned (.bool (decide (x∈l)))∧Below w.heap.size w w':=by
  obtain ⟨xp,xh⟩:=x;have H:=Lib.hid (h.below (z0f w (.cells #[.int .i64 xp,.int .i64 xh] 24)));have D1:=Lib.hid (z0f w (.cells #[.int .i64 xp,.int .i64 xh] 24));have HQ:=Lib.hid (idxM_mem ⟨xp,xh⟩ l 0);obtain ⟨q,hq⟩:∃ q,idxM ⟨xp,xh⟩ l 0=q:=⟨_,rfl⟩
  rw [hq] at HQ;have HC:=Lib.hid hq;obtain ⟨_,a,cap,rfl,-⟩:=id h;clear h hq
  go_enter Tryz.func49,Tryz.ntmps49
  go_wp2_with fail;refine (idxM_any _ l ⟨xp,xh⟩ _ H.out hl).mono ?_;rw [HC.out];rintro e w' ⟨rfl,hb⟩;have HB:=Lib.hid (D1.out.trans (hb.mono D1.out.size));clear hb;go_wp2_with fail;go_ret;exact ⟨ret_bool HQ.out,HB.out⟩
end Me
end Go.Proofs.YtaapnkoooofalaaGreat
