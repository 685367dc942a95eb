/- Laws that the last text leans on. -/
import Derived.Test.YtpingbiibbmcaaaGreatDoorQ30
import Derived.Test.YtpingbiibbmcaaaGreatDoorQ26
import Derived.Laws.ResultCell
import Derived.Laws.Rows

set_option maxRecDepth 20000
set_option maxHeartbeats 4000000
namespace Go.Proofs.YtpingbiibbmcaaaGreatDoor
namespace Do
open Go Go.RowKit Rw YtpingbiibbmcaaaGreatDoor.So Se
theorem sub_at:∀ (t:Tm) (l:List Nd) (i:Nat),AtT l i t→∀ u,i≤u→u<i+sz t→∃ s,AtT l u s:=by
  have leaf:∀ {t:Tm},sz t=1→∀ (l:List Nd) (i:Nat),AtT l i t→∀ u,i≤u→u<i+sz t→∃ s,AtT l u s:=by
    intro t hs l i h u h1 h2;obtain rfl:u=i:=by omega
    exact ⟨t,h⟩
  have one:∀ {t a:Tm} {x:Nd},(∀ (l:List Nd) (i:Nat),AtT l i a→∀ u,i≤u→u<i+sz a→∃ s,AtT l u s)→flat t=x::flat a→sz t=1+sz a→∀ (l:List Nd) (i:Nat),AtT l i t→∀ u,i≤u→u<i+sz t→∃ s,AtT l u s:=by
    intro t a x ia e hs l i h u h1 h2;obtain ⟨_,ha⟩:=at_one h e
    by_cases hu:u=i
    · subst hu;exact ⟨t,h⟩
    · exact ia l (i+1) ha u (by omega) (by omega)
  have two:∀ {t a b:Tm} {x:Nd},(∀ (l:List Nd) (i:Nat),AtT l i a→∀ u,i≤u→u<i+sz a→∃ s,AtT l u s)→(∀ (l:List Nd) (i:Nat),AtT l i b→∀ u,i≤u→u<i+sz b→∃ s,AtT l u s)→flat t=x::(flat a++flat b)→sz t=1+sz a+sz b→
      ∀ (l:List Nd) (i:Nat),AtT l i t→∀ u,i≤u→u<i+sz t→∃ s,AtT l u s:=by
    intro t a b x ia ib e hs l i h u h1 h2;obtain ⟨_,ha,hb⟩:=z1n h e
    by_cases hu:u=i
    · subst hu;exact ⟨t,h⟩
    · by_cases hua:u<i+1+sz a
      · exact ia l (i+1) ha u (by omega) (by omega)
      · exact ib l (i+1+sz a) hb u (by omega) (by omega)
  intro t
  induction t with
  | fin s c ic=>exact one (x:=nEnd s) ic rfl (by simp only [sz]; omega)
  | block a ia=>exact one (x:=nOf 9) ia rfl (by simp only [sz]; omega)
  | seq a b ia ib=>exact two (x:=nOf 5) ia ib rfl (by simp only [sz]; omega)
  | hand a b ia ib=>exact two (x:=nOf 8) ia ib rfl (by simp only [sz]; omega)
  | going a b ia ib=>exact two (x:=nOf 12) ia ib rfl (by simp only [sz]; omega)
  | stack a b ia ib=>exact two (x:=nOf 13) ia ib rfl (by simp only [sz]; omega)
  | alt a b ia ib=>exact two (x:=nOf 6) ia ib rfl (by simp only [sz]; omega)
  | pair a b ia ib=>exact two (x:=nOf 10) ia ib rfl (by simp only [sz]; omega)
  | par a b ia ib=>exact two (x:=nOf 7) ia ib rfl (by simp only [sz]; omega)
  | _=>exact leaf rfl
theorem par_kids {l:List Nd} {u:Nat} {s:Tm} (h:AtT l u s) (h7:kiA l u=7):∃ A B,kids (l.drop u)=[A,B]∧u+1<l.length:=by
  cases s with
  | par a b=>
    obtain ⟨q,e⟩:=h.drop;obtain ⟨_,ha,_⟩:=z1n (x:=nOf 7) h rfl;have h1:=ha.lt;have h2:=z0e a;refine ⟨flat a,flat b,?_,by omega⟩;rw [e,show flat (.par a b)++q=nOf 7::(flat a++(flat b++q)) by simp [flat]];exact z6h a b q rfl
  | act s=>rw [z1m (z1v (x:=nAct s) h rfl)] at h7; simp at h7
  | skip=>rw [z1m (z1v (x:=nOf 2) h rfl)] at h7; simp [nOf] at h7
  | throw=>rw [z1m (z1v (x:=nOf 3) h rfl)] at h7; simp [nOf] at h7
  | yield=>rw [z1m (z1v (x:=nOf 4) h rfl)] at h7; simp [nOf] at h7
  | over s=>rw [z1m (z1v (x:=⟨11,⟨#[]⟩,s⟩) h rfl)] at h7; simp at h7
  | fin s c=>rw [z1m (at_one (x:=nEnd s) h rfl).1] at h7; simp at h7
  | block a=>rw [z1m (at_one (x:=nOf 9) h rfl).1] at h7; simp [nOf] at h7
  | seq a b=>rw [z1m (z1n (x:=nOf 5) h rfl).1] at h7; simp [nOf] at h7
  | hand a b=>rw [z1m (z1n (x:=nOf 8) h rfl).1] at h7; simp [nOf] at h7
  | going a b=>rw [z1m (z1n (x:=nOf 12) h rfl).1] at h7; simp [nOf] at h7
  | stack a b=>rw [z1m (z1n (x:=nOf 13) h rfl).1] at h7; simp [nOf] at h7
  | alt a b=>rw [z1m (z1n (x:=nOf 6) h rfl).1] at h7; simp [nOf] at h7
  | pair a b=>rw [z1m (z1n (x:=nOf 10) h rfl).1] at h7; simp [nOf] at h7
theorem x7g (l:List Nd):∀ (R:List Nat) (u:Nat),u∈(wth l R).1→u∈R
  | [],u,h=>by simp [wth] at h
  | x::r,u,h=>by
    rw [wth] at h
    split at h
    · cases h
    · rcases List.mem_cons.1 h with h | h
      · exact h ▸ List.mem_cons_self ..
      · exact List.mem_cons_of_mem _ (x7g l r u h)
theorem x7h (l:List Nd):∀ R:List Nat,(wth l R).1.length≤R.length
  | []=>Nat.le_refl _
  | x::r=>by
    rw [wth]
    split
    · exact Nat.zero_le _
    · have:=x7h l r;simp;exact this
def GotK (base:Nat) (w:World) (v:Value) (ls:List (List Nd)):Prop:=∃ cs,w.ownsRow base 22 1 v ls.length cs∧Rx.OwnK base v.ownBlock w cs ls∧base≤w.heap.size
theorem GotK.start {base:Nat} {w:World} (hb:base≤w.heap.size):GotK base w (.slice none 0 0) []:=⟨[],⟨rfl,.inl ⟨rfl,rfl⟩⟩,trivial,hb⟩
theorem GotK.below {base:Nat} {w w':World} {v:Value} {ls:List (List Nd)} (h:GotK base w v ls) (hb:Below w.heap.size w w'):GotK base w' v ls:=by
  obtain ⟨cs,h1,h2,h3⟩:=h;exact ⟨cs,Ap.own_below h1 hb,h2.below hb,Nat.le_trans h3 hb.size⟩
theorem GotK.slice {base:Nat} {w:World} {v:Value} {ls:List (List Nd)} (h:GotK base w v ls):∃ a c,v=.slice a ls.length c:=by
  obtain ⟨cs,h1,_⟩:=h;exact Rx.z3k h1
theorem GotK.rws {base:Nat} {w:World} {v:Value} {ls:List (List Nd)} (h:GotK base w v ls):Rws w v ls:=by
  obtain ⟨cs,h1,h2,_⟩:=h;exact ⟨cs,Ap.Rd.owned h1,OwnC.rwc (Rx.OwnK.ownC h2)⟩
theorem GotK.next {base:Nat} {wr w1:World} {v a:Value} {ls:List (List Nd)} {r:List Nd} (h:GotK base wr v ls) (ha:w1.ownsRow wr.heap.size 68 3 a r.length (cls r)) (hb1:Below wr.heap.size wr w1) (hl:ls.length≤100000) :
    ∃ v' w',(Builtin.append_ #[116,116] 116 #[v,.slice (some ⟨w1.heap.size,0,none⟩) 1 1]).run Tryz.prog (w1.alloc (.cells #[a] 22))=.ok v' w'∧GotK base w' v' (ls++[r])∧Below base w1 w':=by
  obtain ⟨cs,hown,hrw,hb⟩:=h.below hb1;obtain ⟨cs0,hown0,_,hb0⟩:=h;obtain ⟨i0,hi,hz,hs1,hb8⟩:=info_parts infoRw;obtain ⟨a1,k1,hsl⟩:=Rx.z3k ha
  obtain ⟨v',w',h1,h2,h3,h4,h5⟩:=Ap.z1f (P:=Tryz.prog) (ty:=116) Tryz.underlying116 hi hz hs1 hb8 (by rfl) (by omega) hown hb #[a] rfl
    (by intro u hu; simp at hu; subst hu; rw [hsl]; rfl) (by unfold maxLen; omega) (by omega)
  have hne:∀ g,a.ownBlock=some g→some g≠v.ownBlock:=by
    intro g hg e;have h1:=Ap.y6b hown0 g e.symm;obtain ⟨_,⟨rfl,_⟩ | ⟨g',_,_,rfl,hg',_⟩⟩:=ha
    · cases hg
    · have:g'=g:=Option.some.inj hg;omega
  refine ⟨v',w',h1,⟨cs++[a],by rw [List.length_append]; exact h2,(hrw.snoc (Ap.z3e ha hb0) hne).grow h3 h5,Nat.le_trans hb h4.size⟩,h4⟩
theorem bsd_next {l:List Nd} {p:Nat} {R:List Nat} {k:Nat} (hk:k<R.length):bsd l p (R.take (k+1))=bsd l p (R.take k)++(if kiA l R[k]=7 then [oth l p R[k]] else []):=by
  unfold bsd;rw [List.take_succ_eq_append_getElem hk,List.filterMap_append]
  congr 1
  by_cases h:kiA l R[k]=7
  · simp [h]
  · simp [h]
theorem x6w (b off c:Nat) (t:Tm) (p:Nat) (w:World) (hat:At w b off (flat t)) (hc:sz t≤c) (hl:sz t≤400) (hp:p<sz t)
    (hA:Calls Tryz.prog 244 #[.slice (some ⟨b,off,none⟩) (sz t) c,.int .i64 (p:Int)] w fun e w'=>e=.returned (.bool true)∧Below w.heap.size w w') :
    Calls Tryz.prog 247 #[.slice (some ⟨b,off,none⟩) (sz t) c,.int .i64 (p:Int)] w fun e w'=>∃ y,e=.returned y∧Rws w' y ((pth t 0 p).1.map flat)∧Below w.heap.size w w':=by
  have HA:=Lib.hid hA;have HWI:=Lib.hid (fun w1 (hb:Below w.heap.size w w1)=>y1c b off c t p w1 (z4c hat hb rfl) hc hl hp);have hup:=(up_all t (flat t) 0 p (AtT.self t) (Nat.zero_le _) (by omega)).1;have hfl:=Se.flat_len t;have HIN:Hid (∀ u∈(wth (flat t) (abv t 0 p).reverse).1,u<sz t):=Lib.hid fun u hu=>Nat.lt_trans (abv_in hp u (List.mem_reverse.1 (x7g _ _ _ hu))) hp
  have hRl:(wth (flat t) (abv t 0 p).reverse).1.length≤1000:=by
    refine Nat.le_trans (x7h _ _) ?_;rw [List.length_reverse,← x1w t hp];unfold Pl.ov;exact Nat.le_trans (List.length_filter_le _ _) (by simp; omega)
  have HOT:=Lib.hid (fun w1 (hb:Below w.heap.size w w1) u (hu:u<sz t) (h7:kiA (flat t) u=7)=>by
    obtain ⟨s,hs⟩:=sub_at t (flat t) 0 (AtT.self t) u (Nat.zero_le _) (by omega);obtain ⟨A,B,hk,hlt⟩:=par_kids hs h7;have:=v0h b off c (flat t) u p A B w1 (z4c hat hb rfl) (by omega) (by omega) hlt hk;rw [hfl] at this;exact this)
  rw [← hup];have HAT:=Lib.hid hat;obtain ⟨n,hn⟩:∃ n,sz t=n:=⟨_,rfl⟩
  obtain ⟨d,hd⟩:∃ d,(wth (flat t) (abv t 0 p).reverse).2=d:=⟨_,rfl⟩
  obtain ⟨R,hR⟩:∃ R,(wth (flat t) (abv t 0 p).reverse).1=R:=⟨_,rfl⟩
  obtain ⟨l,hlt⟩:∃ l,flat t=l:=⟨_,rfl⟩
  rw [hd,hR] at HWI;rw [hR] at HIN hRl ⊢;rw [hn] at HA HWI HIN HOT hfl hc hl ⊢;rw [hlt] at HAT HOT hfl ⊢;clear hA hat hup hd hR hlt hp hn
  go_enter Tryz.func247,Tryz.ntmps247
  go_wp2_with fail;refine HA.out.mono ?_;rintro e w1 ⟨rfl,hb1⟩;have D1:=Lib.hid hb1;clear hb1;go_wp2_with fail;refine (HWI.out _ D1.out).mono ?_;rintro e w2 ⟨y,rfl,hpl,hb2⟩;have D2:=Lib.hid (D1.out.trans (hb2.mono D1.out.size))
  rcases hpl.form with ⟨rfl,a,cap,rfl⟩ | ⟨bb,oo,cap,rfl,hap⟩
  · clear hpl hb2 HIN HOT hRl;go_wp2_with fail;refine Go.wp_loop_rounds 1 ?_;rw [rounds_succ];go_wp2_with fail;go_ret;exact ⟨_,rfl,Rws.below (GotK.start (Nat.le_refl _)).rws (Below.refl _ _),D2.out⟩
  · have AP:=Lib.hid hap;clear hpl hb2 hap;go_wp2_with fail
    go_loopw [5,22] (fun v i wr=>∃ k:Nat,k≤R.length∧i=.int .i64 k∧Hid (GotK w2.heap.size wr v (bsd l p (R.take k)))∧Hid (Below w2.heap.size w2 wr∧Below w.heap.size w wr)) (fun _ i _=>R.length-(intOf i).toNat)
    case atStart=>exact ⟨0,Nat.zero_le _,rfl,Lib.hid (GotK.start (Nat.le_refl _)),Lib.hid ⟨Below.refl _ _,D2.out⟩⟩
    case round=>
      obtain ⟨k,hk,rfl,HG,HB⟩:=hrel;obtain ⟨va,vc,hv⟩:=HG.out.slice;obtain ⟨m,hm⟩:∃ m,(bsd l p (R.take k)).length=m:=⟨_,rfl⟩
      have HM:Hid ((bsd l p (R.take k)).length≤100000):=Lib.hid (by
        unfold bsd;refine Nat.le_trans (List.length_filterMap_le _ _) ?_;rw [List.length_take];omega)
      rw [hm] at hv;subst hv;clear hm
      by_cases hlt:k<R.length
      · have e1:=AP.out k hlt;have c1:wr.cell? ⟨bb,oo+k,none⟩=some (.int .i64 (R[k]:Int)):=by rw [HB.out.1.cell (Ap.z0a e1)]; exact e1
        have hu:=HIN.out _ (List.getElem_mem hlt);have e2:=(HAT.out R[k] (by omega)).1;have c2:wr.cell? ⟨b,off+R[k]*3,none⟩=some (.int .i64 (l[R[k]]'(by omega)).k):=by rw [HB.out.2.cell (Ap.z0a e2)]; exact e2
        rw [← v1h (l:=l) (u:=R[k]) (by omega)] at c2;have HX:=Lib.hid (bsd_next (l:=l) (p:=p) hlt);have HO:=Lib.hid (fun (h7:kiA l (R[k]'hlt)=7)=>HOT.out wr HB.out.2 (R[k]'hlt) hu h7);obtain ⟨u,hu2⟩:∃ u,R[k]=u:=⟨_,rfl⟩
        rw [hu2] at c1 c2 HX HO hu;obtain ⟨q,hq⟩:∃ q,kiA l u=q:=⟨_,rfl⟩
        rw [hq] at c2 HX HO;have hui:(u:Int)<n:=by omega
        clear e1 e2 hu2 hq
        by_cases h7:q=7
        · subst h7;have HO2:=Lib.hid (HO.out rfl);have HX2:Hid (bsd l p (R.take (k+1))=bsd l p (R.take k)++[oth l p u]):=Lib.hid (by rw [HX.out,if_pos rfl]);clear HO HX;generalize oth l p u=O at HO2 HX2;go_wp2_with fail;refine HO2.out.mono ?_;rintro e w4 ⟨y4,rfl,hown,hb4⟩;obtain ⟨v',w',hrun,hg',hb'⟩:=HG.out.next hown hb4 HM.out;obtain ⟨a4,k4,rfl⟩:=Rx.z3k hown;have RUN:=Lib.hid hrun;have G':=Lib.hid hg';have hb5:Below w2.heap.size w2 w':=(HB.out.1.trans (hb4.mono HB.out.1.size)).trans hb';have B':Hid (Below w2.heap.size w2 w'∧Below w.heap.size w w'):=Lib.hid ⟨hb5,D2.out.trans (hb5.mono D2.out.size)⟩;clear hrun hg' hb' hown hb4 hb5;go_wp2_with (at_builtin; refine Ap.wpList_append_run (by rfl) _ _ _ _ rfl _ _ rfl rfl v' w' RUN.out ?_)
          go_roundw
          case rel=>exact ⟨k+1,by omega,by go_num,by rw [HX2.out]; exact G',B'⟩
          case measure=>simp [intOf]; omega
        · have g7:(q==7)=false:=beq_eq_false_iff_ne.2 h7;have HX2:Hid (bsd l p (R.take (k+1))=bsd l p (R.take k)):=Lib.hid (by rw [HX.out,if_neg h7,List.append_nil]);clear HO HX h7;go_wp2_with fail
          go_roundw
          case rel=>exact ⟨k+1,by omega,by go_num,by rw [HX2.out]; exact HG,HB⟩
          case measure=>simp [intOf]; omega
      · have hkl:k=R.length:=by omega
        subst hkl;rw [List.take_length] at HG;go_wp2_with fail;go_ret;exact ⟨_,rfl,HG.out.rws,HB.out.2⟩
end Do
namespace Me
open Go Go.RowKit Rw YtpingbiibbmcaaaGreatDoor.So Se Do
theorem flat_take {α β:Type} (f:α→List β) {V:List α} {k:Nat} (h:k<V.length):(V.take (k+1)).flatMap f=(V.take k).flatMap f++f V[k]:=by
  rw [List.take_succ_eq_append_getElem h,List.flatMap_append];simp
theorem av_at {l:List Nd} {k:Nat} (h:k<(av l).length):∃ q:Nat,(av l)[k]=(q:Int)∧q<l.length:=by
  obtain ⟨h0,h1⟩:=av_in (List.getElem_mem h);exact ⟨((av l)[k]).toNat,by omega,by omega⟩
theorem kn_at {l:List Nd} {q:Nat} (h:q<l.length):kn l (q:Int)=l[q].k:=by
  unfold kn;rw [Int.toNat_natCast,List.getElem?_eq_getElem h]
end Me
namespace Ru
open Go Rw YtpingbiibbmcaaaGreatDoor.So Se Do Sp Me St
structure Rn where
  l:List Nd
  a:List ByteArray
  n:Nat
noncomputable def stepR (r:Rn) (z:Int):Rn:=
  if enR r.l=[] then r else ⟨nxL r.l (pkM r.l z),if (pkM r.l z).h=1 then r.a++[nxS r.l (pkM r.l z)] else r.a,r.n+1⟩
noncomputable def play (l:List Nd) (ps:List Int):Rn:=ps.foldl stepR ⟨l,[],0⟩
theorem z4w {r:Rn} (h:enR r.l=[]) (z:Int):stepR r z=r:=if_pos h
theorem z3s {r:Rn} (h:enR r.l≠[]) (z:Int):stepR r z=⟨nxL r.l (pkM r.l z),if (pkM r.l z).h=1 then r.a++[nxS r.l (pkM r.l z)] else r.a,r.n+1⟩:=if_neg h
theorem z2h:∀ (ps:List Int) {r:Rn},enR r.l=[]→ps.foldl stepR r=r
  | [],_,_=>rfl
  | z::ps,r,h=>by rw [List.foldl_cons,z4w h]; exact z2h ps h
theorem pk_in {l:List Nd} (h:enR l≠[]) (z:Int):pkM l z∈enR l:=pkM_mem (by cases e:enR l with | nil=>exact absurd e h | cons a b=>simp)
theorem z5f:∀ (ps:List Int) (l:List Nd) (a:List ByteArray) (n:Nat),ps.foldl stepR ⟨l,a,n⟩=⟨(play l ps).l,a++(play l ps).a,n+(play l ps).n⟩
  | [],l,a,n=>by simp [play]
  | z::ps,l,a,n=>by
    unfold play;rw [List.foldl_cons,List.foldl_cons]
    by_cases h:enR l=[]
    · rw [z4w (r:=⟨l,a,n⟩) h,z4w (r:=⟨l,[],0⟩) h,z2h ps (r:=⟨l,a,n⟩) h,z2h ps (r:=⟨l,[],0⟩) h];simp
    · rw [z3s (r:=⟨l,a,n⟩) h,z3s (r:=⟨l,[],0⟩) h];simp only;rw [z5f ps,z5f ps (nxL l (pkM l z)) (if (pkM l z).h=1 then []++[nxS l (pkM l z)] else [])]
      split <;> simp <;> omega
theorem z9l (l:List Nd) (a b:List Int):play l (a++b)=⟨(play (play l a).l b).l,(play l a).a++(play (play l a).l b).a,(play l a).n+(play (play l a).l b).n⟩:=by
  conv=>lhs; unfold play; rw [List.foldl_append]
  exact z5f b (play l a).l (play l a).a (play l a).n
theorem play_nil (l:List Nd):play l []=⟨l,[],0⟩:=rfl
theorem z2t (l:List Nd) (z:Int) (ps:List Int) (h:enR l≠[]):play l (z::ps)=⟨(play (nxL l (pkM l z)) ps).l,(if (pkM l z).h=1 then [nxS l (pkM l z)] else [])++(play (nxL l (pkM l z)) ps).a,1+(play (nxL l (pkM l z)) ps).n⟩:=by
  conv=>lhs; unfold play; rw [List.foldl_cons,z3s (r:=⟨l,[],0⟩) h]
  rw [z5f];simp only [List.nil_append,Nat.zero_add]
theorem x1t (l:List Nd) (ps:List Int):(play l ps).n≤ps.length∧((play l ps).n<ps.length→enR (play l ps).l=[]):=by
  induction ps generalizing l with
  | nil=>exact ⟨Nat.le_refl _,fun h=>absurd h (Nat.lt_irrefl _)⟩
  | cons z ps ih=>
    by_cases h:enR l=[]
    · have e:play l (z::ps)=⟨l,[],0⟩:=z2h (z::ps) (r:=⟨l,[],0⟩) h;rw [e];exact ⟨Nat.zero_le _,fun _=>h⟩
    · rw [z2t l z ps h];obtain ⟨h1,h2⟩:=ih (nxL l (pkM l z));simp only [List.length_cons];exact ⟨by omega,fun k=>h2 (by omega)⟩
def RunL (l:List Nd):Prop:=∃ t,l=flat t∧Goes t∧Run t
theorem RunL.next {l:List Nd} (h:RunL l) {m:Mv} (hm:m∈enR l):RunL (nxL l m):=by
  obtain ⟨t,rfl,hg,hr⟩:=h;obtain ⟨mo,h1,rfl⟩:=y0n hg hr.nf hm;rw [(z6v hg hr.nf h1).1];exact ⟨_,rfl,(z6x hg h1).S,hr.next h1⟩
theorem RunL.ended {l:List Nd} (h:RunL l):enR l=[]↔∃ s:Int,l=[⟨11,⟨#[]⟩,s⟩]:=by
  obtain ⟨t,rfl,hg,hr⟩:=h
  constructor
  · intro he
    rcases hr.goes true 0 with k | ⟨s,rfl⟩
    · rw [z4r hg hr.nf,List.map_eq_nil_iff] at he;exact absurd he k
    · exact ⟨s,rfl⟩
  · rintro ⟨s,e⟩;have:t=.over s:=z2d _ _ e;subst this;rw [z4r hg hr.nf]
    rfl
theorem play_run {l:List Nd} (h:RunL l):∀ ps:List Int,RunL (play l ps).l:=by
  intro ps
  induction ps generalizing l with
  | nil=>exact h
  | cons z ps ih=>
    by_cases he:enR l=[]
    · have e:play l (z::ps)=⟨l,[],0⟩:=z2h (z::ps) (r:=⟨l,[],0⟩) he;rw [e];exact h
    · rw [z2t l z ps he];exact ih (h.next (pk_in he z))
theorem z5z {l:List Nd} (hl:l.length≤1000) (hm:Nms l) (ps:List Int):(play l ps).l.length≤1000∧Nms (play l ps).l:=by
  induction ps generalizing l with
  | nil=>exact ⟨hl,hm⟩
  | cons z ps ih=>
    by_cases he:enR l=[]
    · have e:play l (z::ps)=⟨l,[],0⟩:=z2h (z::ps) (r:=⟨l,[],0⟩) he;rw [e];exact ⟨hl,hm⟩
    · rw [z2t l z ps he];have hin:=pk_in he z;obtain ⟨t,rfl,hg,hn⟩:=x3d hin;obtain ⟨mo,h1,h2⟩:=y0n hg hn hin;rw [h2,(z6v hg hn h1).1];have hS:=(z6x hg h1).S;refine ih ?_ (z2c hS.1);rw [Se.flat_len];have:=hS.2.1;omega
end Ru
namespace St
open Go Go.RowKit Rw YtpingbiibbmcaaaGreatDoor.So Se Do Sp Me

end St
namespace Do
open Go Go.RowKit Rw YtpingbiibbmcaaaGreatDoor.So Se
theorem x6v (v:Value) (l:List Nd) (z:Int) (w:World) (hv:Nds w v l) (hA:Calls Tryz.prog 244 #[v,.int .i64 z] w fun e w'=>e=.returned (.bool false)∧Below w.heap.size w w') :
    Calls Tryz.prog 247 #[v,.int .i64 z] w fun e w'=>∃ y,e=.returned y∧Rws w' y []∧Below w.heap.size w w':=by
  have HA:=Lib.hid hA;obtain ⟨_,a,c,rfl,-⟩:=hv;clear hA
  go_enter Tryz.func247,Tryz.ntmps247
  go_wp2_with fail;refine HA.out.mono ?_;rintro e w1 ⟨rfl,hb1⟩;have D1:=Lib.hid hb1;clear hb1;go_wp2_with fail;go_ret;exact ⟨_,rfl,Rws.below (GotK.start (Nat.le_refl _)).rws (Below.refl _ _),D1.out⟩
theorem besP_any (v:Value) (l:List Nd) (z:Int) (w:World) (hv:Nds w v l) (hl:l.length≤1000) (hm:Nms l) :
    Calls Tryz.prog 247 #[v,.int .i64 z] w fun e w'=>∃ y,e=.returned y∧Rws w' y (bs l z)∧Below w.heap.size w w':=by
  have hA:=z7r v l z w hv hl hm
  by_cases hz:z∈av l
  · rw [decide_eq_true hz] at hA
    have hs:setB l=true:=by
      cases hs:setB l with
      | true=>rfl
      | false=>rw [y7r hs] at hz; cases hz
    obtain ⟨t,rfl,hg,hn⟩:=z0k.1 hs;obtain ⟨k,hk,rfl⟩:=(y1r hg hn).1 hz;rw [bs_go hg hn hk];obtain ⟨b,off,c,rfl,hc,hat⟩:=y3z hv;exact x6w b off c t k w hat hc (by have:=hg.2.1; omega) (by have:=z5j t 0 k hk; omega) hA
  · rw [decide_eq_false hz] at hA;rw [bs_no hz];exact x6v v l z w hv hA
theorem any_bang {t:Tm} {k:Nat} (hg:Goes t) (hn:Nf t) (hk:k∈wt t 0):((pth t 0 k).1.map flat).any dm=(pth t 0 k).1.any bangT:=by
  have h:=x1s t 0 k hk hg hn;generalize (pth t 0 k).1=L at h ⊢
  induction L with
  | nil=>rfl
  | cons u L ih=>
    rw [List.map_cons,List.any_cons,List.any_cons,ih fun x hx=>h x (List.mem_cons_of_mem _ hx)];obtain ⟨h1,h2⟩:=h u (List.mem_cons_self ..);rw [dm_go h1 h2]
theorem freP_any (v:Value) (l:List Nd) (z:Int) (w:World) (hv:Nds w v l) (hl:l.length≤1000) (hm:Nms l) :
    Calls Tryz.prog 191 #[v,.int .i64 z] w fun e w'=>e=.returned (.bool (fr l z))∧Below w.heap.size w w':=by
  have HA:=Lib.hid (z7r v l z w hv hl hm)
  by_cases hz:z∈av l
  · rw [decide_eq_true hz] at HA;have HB:=Lib.hid (fun w1 (hb:Below w.heap.size w w1)=>besP_any v l z w1 (hv.below hb) hl hm)
    have hs:setB l=true:=by
      cases hs:setB l with
      | true=>rfl
      | false=>rw [y7r hs] at hz; cases hz
    obtain ⟨t,rfl,hg,hn⟩:=z0k.1 hs;obtain ⟨k,hk,rfl⟩:=(y1r hg hn).1 hz;rw [bs_go hg hn hk] at HB;rw [fr_go hg hn hk,← any_bang hg hn hk];obtain ⟨b,off,c,rfl,hc,hat⟩:=y3z hv;have hkt:k<sz t:=by have:=z5j t 0 k hk; omega
    have HWI:=Lib.hid (fun w1 (hb:Below w.heap.size w w1)=>y1c b off c t k w1 (z4c hat hb rfl) hc (by have:=hg.2.1; omega) hkt);rw [(up_all t (flat t) 0 k (AtT.self t) (Nat.zero_le _) (by omega)).2] at HWI;have eg:∀ args w,(callFunc 248 args).run Tryz.prog w=.ok (.enter 248 args) w:=enters_of Tryz.func248 (by kernel_rfl) rfl
    have HC:=Lib.hid (fun y w1 (hr:Rws w1 y ((pth t 0 k).1.map flat))=>y4k 248 eg dm y _ w1 hr (by rw [List.length_map]; have:=pth_len t 0 k; have:=hg.2.1; omega) fun r hr wr a hn'=>by
      obtain ⟨u,hu,rfl⟩:=List.mem_map.1 hr;obtain ⟨h1,h2⟩:=x1s t 0 k hk hg hn u hu;exact v3i a (flat u) wr hn' (by rw [Se.flat_len]; have:=h1.2.1; omega) (z2c h1.1))
    generalize ((pth t 0 k).1.map flat)=L at HB HC ⊢;generalize (pth t 0 k).2=d at HWI ⊢;generalize (wth (flat t) (abv t 0 k).reverse).1=R at HWI;generalize L.any dm=x at HC ⊢;generalize sz t=n at HA HB HWI;clear hv hat hs hz hg hn hk hl hm eg hkt
    cases d with
    | false=>
      go_enter Tryz.func191,Tryz.ntmps191
      go_wp2_with fail;refine HA.out.mono ?_;rintro e w1 ⟨rfl,hb1⟩;have D1:=Lib.hid hb1;clear hb1;go_wp2_with fail;refine (HWI.out _ D1.out).mono ?_;rintro e w2 ⟨y,rfl,hpl,hb2⟩;have D2:=Lib.hid (D1.out.trans (hb2.mono D1.out.size));clear hpl hb2;go_wp2_with fail;go_ret;exact ⟨rfl,D2.out⟩
    | true=>
      go_enter Tryz.func191,Tryz.ntmps191
      go_wp2_with fail;refine HA.out.mono ?_;rintro e w1 ⟨rfl,hb1⟩;have D1:=Lib.hid hb1;clear hb1;go_wp2_with fail;refine (HWI.out _ D1.out).mono ?_;rintro e w2 ⟨y,rfl,hpl,hb2⟩;have D2:=Lib.hid (D1.out.trans (hb2.mono D1.out.size));clear hpl hb2;go_wp2_with fail;refine (HB.out _ D2.out).mono ?_;rintro e w3 ⟨y3,rfl,hr3,hb3⟩;have D3:=Lib.hid (D2.out.trans (hb3.mono D2.out.size));have R3:=Lib.hid hr3;obtain ⟨_,⟨_,a3,c3,rfl,-⟩,-⟩:=id hr3;clear hr3 hb3;go_wp2_with fail;refine (HC.out _ _ R3.out).mono ?_;rintro e w4 ⟨rfl,hb4⟩;have D4:=Lib.hid (D3.out.trans (hb4.mono D3.out.size));clear hb4;go_wp2_with fail;go_ret;exact ⟨rfl,D4.out⟩
  · rw [decide_eq_false hz] at HA;rw [fr_no hz];obtain ⟨_,a,c,rfl,-⟩:=hv;clear hm hz
    go_enter Tryz.func191,Tryz.ntmps191
    go_wp2_with fail;refine HA.out.mono ?_;rintro e w1 ⟨rfl,hb1⟩;have D1:=Lib.hid hb1;clear hb1;go_wp2_with fail;go_ret;exact ⟨rfl,D1.out⟩
end Do
namespace Me
open Go Go.RowKit Rw YtpingbiibbmcaaaGreatDoor.So Se Do
theorem v0t {x y:Mv}:x=y↔x.p=y.p∧x.h=y.h:=by
  cases x; cases y; simp
theorem eql_mv (d:Nat) (x y:Mv) (w:World):(Op.equalIn (d+2) 71 (.agg #[.int .i64 x.p,.int .i64 x.h]) (.agg #[.int .i64 y.p,.int .i64 y.h])).run Tryz.prog w=.ok (decide (x=y)) w:=by
  rw [run_equalIn_struct w (d+1) _ _ _ (by kernel_rfl) (by kernel_rfl)];simp only [Program.fieldsOf,Tryz.underlying71]
  by_cases h1:x.p=y.p
  · by_cases h2:x.h=y.h
    · rw [decide_eq_true (v0t.2 ⟨h1,h2⟩),h1,h2];simp [go_sem,Op.eqFields]
    · rw [decide_eq_false (fun e=>h2 (v0t.1 e).2),h1];simp [go_sem,Op.eqFields,h2]
  · rw [decide_eq_false (fun e=>h1 (v0t.1 e).1)];simp [go_sem,Op.eqFields,h1]
theorem eq_mv (x y:Mv) (w:World):(binOp .eql 71 (.agg #[.int .i64 x.p,.int .i64 x.h]) (.agg #[.int .i64 y.p,.int .i64 y.h])).run Tryz.prog w=.ok (.bool (decide (x=y))) w:=by
  rw [run_eql_struct,show (10000:Nat)=9998+2 from rfl,eql_mv]
  rfl
theorem mem_takeM {l:List Mv} {k:Nat} {x:Mv} (h:k<l.length):x∈l.take (k+1)↔x∈l.take k∨x=l[k]:=by
  rw [List.take_succ_eq_append_getElem h,List.mem_append,List.mem_singleton]
end Me
namespace St
open Go Go.RowKit Rw YtpingbiibbmcaaaGreatDoor.So Se Do Sp Me
theorem putP_any (v vx:Value) (l x:List Nd) (z:Int) (w:World) (hv:Nds w v l) (hx:Nds w vx x) (hl:l.length≤1000) (hxl:x.length≤1000) :
    Calls Tryz.prog 195 #[v,.int .i64 z,vx] w fun e w'=>∃ y,e=.returned y∧w'.ownsRow w.heap.size 68 3 y (putR l z x).length (cls (putR l z x))∧Below w.heap.size w w':=by
  by_cases h0:szA l z=0
  · have e:putR l z x=l:=by
      unfold putR;unfold szA at h0
      split
      · rfl
      · rename_i h
        rw [if_neg h] at h0;exact if_pos h0
    rw [e];exact x8z v vx l x z w hv hx hl h0
  · have hb:¬ (z<0∨z≥l.length):=fun h=>h0 (if_pos h)
    obtain ⟨q,rfl⟩:∃ q:Nat,z=(q:Int):=⟨z.toNat,by omega⟩
    have e0:szA l (q:Int)=size (l.drop q):=if_neg hb
    have e:putR l (q:Int) x=l.take q++x++l.drop (q+size (l.drop q)):=by
      unfold putR;rw [if_neg hb]
      show putN l q x=_
      exact if_neg (by rw [← e0]; exact h0)
    rw [e];have hS:=y1j v l (q:Int) w hv hl;rw [e0] at hS h0;have hsz:=size_le (l.drop q);rw [List.length_drop] at hsz
    rcases hv.form with ⟨h1,_⟩ | ⟨b,o,c,rfl,hc,hat⟩
    · rw [h1] at hb; simp at hb
    · exact x8y b o c l.length x.length (q+x.length+(l.length-(q+size (l.drop q)))) q (size (l.drop q)) (q+size (l.drop q)) vx (l.take q) x (l.drop (q+size (l.drop q))) w _ rfl
        (fun w1 hb1=>(take_nds rfl hat q (by omega) hc).below hb1) (fun w1 hb1=>hx.below hb1) (fun _ w1 hb1=>(y4g rfl hat _ (by omega) hc).below hb1)
        (by rw [List.length_take]; omega) rfl (by rw [List.length_drop]) (by omega) (by omega) rfl (by omega) hc rfl hl hxl hS
def FnV (w:World) (f:Value) (ls:List (List Nd)) (X:List Nd):Prop:=
  ∃ fn caps,f=.func (.func fn) #[] caps∧(∀ args w,(callFunc fn args).run Tryz.prog w=.ok (.enter fn args) w)∧
    ∀ w1 y,Below w.heap.size w w1→Rws w1 y ls→Calls Tryz.prog fn (#[y]++caps) w1 fun e w'=>∃ y',e=.returned y'∧Nds w' y' X∧Below w1.heap.size w1 w'
theorem FnV.below {w w':World} {f:Value} {ls:List (List Nd)} {X:List Nd} (h:FnV w f ls X) (hb:Below w.heap.size w w'):FnV w' f ls X:=by
  obtain ⟨fn,caps,e,eg,H⟩:=h;exact ⟨fn,caps,e,eg,fun w1 y hb1 hy=>H w1 y (hb.trans (hb1.mono hb.size)) hy⟩
def OutF (w:World) (ls:List (List Nd)) (X:List Nd) (e:Ending) (w':World):Prop:=∃ f,e=.returned f∧FnV w' f ls X∧Below w.heap.size w w'
theorem rws_get {w:World} {y:Value} {ls:List (List Nd)} (h:Rws w y ls) (k:Nat) (hk:k<ls.length):∃ b o c a,y=.slice (some ⟨b,o,none⟩) ls.length c∧w.cell? ⟨b,o+k,none⟩=some a∧Nds w a (ls.getD k []):=by
  rcases Rx.x1o h with ⟨rfl,_⟩ | ⟨b,o,c,rfl,hat⟩
  · simp at hk
  · obtain ⟨a,h1,h2⟩:=hat k hk;refine ⟨b,o,c,a,rfl,h1,?_⟩
    rwa [List.getD_eq_getElem?_getD,List.getElem?_eq_getElem hk,Option.getD_some]
theorem kid1_any (k B:Nat) (y:Value) (ls:List (List Nd)) (w:World) (hB:w.cell? ⟨B,0,none⟩=some (.int .i64 (k:Int))) (hy:Rws w y ls) (hk:k<ls.length) :
    Calls Tryz.prog 253 #[y,.pointer (some ⟨B,0,none⟩)] w fun e w'=>∃ y',e=.returned y'∧Nds w' y' (ls.getD k [])∧Below w.heap.size w w':=by
  obtain ⟨b,o,c,a,rfl,h1,h2⟩:=rws_get hy k hk;obtain ⟨_,aa,cc,rfl,-⟩:=id h2;have H2:=Lib.hid h2;clear hy h2;generalize (ls.getD k []).length=m at *
  go_enter Tryz.func253,Tryz.ntmps253
  go_wp2_with fail;go_ret;exact ⟨_,rfl,H2.out,Below.refl _ _⟩
theorem kid_any (k:Nat) (ls:List (List Nd)) (w:World) (hk:k<ls.length) :
    Calls Tryz.prog 196 #[.int .i64 (k:Int)] w (OutF w ls (ls.getD k [])):=by
  have eg:∀ args w,(callFunc 253 args).run Tryz.prog w=.ok (.enter 253 args) w:=enters_of Tryz.func253 (by kernel_rfl) rfl;have hb:=z0b w (.cells #[.int .i64 (k:Int)] 3);have hc:(w.alloc (.cells #[.int .i64 (k:Int)] 3)).cell? ⟨w.heap.size,0,none⟩=some (.int .i64 (k:Int)):=by rw [World.cell?_alloc_new]; rfl
  have F:Hid (FnV (w.alloc (.cells #[.int .i64 (k:Int)] 3)) (.func (.func 253) #[] #[.pointer (some ⟨w.heap.size,0,none⟩)]) ls (ls.getD k [])):=Lib.hid ⟨_,_,rfl,eg,fun w1 y hb1 hy=>kid1_any k _ y ls w1 (by rw [hb1.cell (Ap.z0a hc)]; exact hc) hy hk⟩;have D:=Lib.hid hb;have hmf:∀ fn first cap w,(Instr.makeFunc fn first cap).run Tryz.prog w=.ok (.func fn first cap) w:=fun _ _ _ _=>rfl
  clear eg hb hc;unfold OutF
  go_enter Tryz.func196,Tryz.ntmps196
  go_wp2_with fail;go_ret;exact ⟨_,rfl,F.out,D.out⟩
theorem x1c (B:Nat) (y s:Value) (X:List Nd) (w:World) (hB:w.cell? ⟨B,0,none⟩=some s) (hs:Nds w s X) (hy:∃ a n c,y=.slice a n c) :
    Calls Tryz.prog 254 #[y,.pointer (some ⟨B,0,none⟩)] w fun e w'=>∃ y',e=.returned y'∧Nds w' y' X∧Below w.heap.size w w':=by
  obtain ⟨a,n,c,rfl⟩:=hy;obtain ⟨_,aa,cc,rfl,-⟩:=id hs;have H:=Lib.hid hs;clear hs;generalize X.length=m at *
  go_enter Tryz.func254,Tryz.ntmps254
  go_wp2_with fail;go_ret;exact ⟨_,rfl,H.out,Below.refl _ _⟩
theorem z9b {w:World} {y:Value} {ls:List (List Nd)} (h:Rws w y ls):∃ a n c,y=.slice a n c:=by
  obtain ⟨cs,⟨_,a,c,rfl,-⟩,-⟩:=h;exact ⟨_,_,_,rfl⟩
theorem always_any (s:Value) (X:List Nd) (ls:List (List Nd)) (w:World) (hs:Nds w s X) :
    Calls Tryz.prog 198 #[s] w (OutF w ls X):=by
  have eg:∀ args w,(callFunc 254 args).run Tryz.prog w=.ok (.enter 254 args) w:=enters_of Tryz.func254 (by kernel_rfl) rfl;obtain ⟨_,aa,cc,rfl,-⟩:=id hs;obtain ⟨m,hm⟩:∃ m,X.length=m:=⟨_,rfl⟩
  rw [hm] at hs ⊢;have hb:=z0b w (.cells #[.slice aa m cc] 22);have hc:(w.alloc (.cells #[.slice aa m cc] 22)).cell? ⟨w.heap.size,0,none⟩=some (.slice aa m cc):=by rw [World.cell?_alloc_new]; rfl
  have F:Hid (FnV (w.alloc (.cells #[.slice aa m cc] 22)) (.func (.func 254) #[] #[.pointer (some ⟨w.heap.size,0,none⟩)]) ls X):=Lib.hid ⟨_,_,rfl,eg,fun w1 y hb1 hy=>x1c _ y _ X w1 (by rw [hb1.cell (Ap.z0a hc)]; exact hc) ((hs.below hb).below hb1) (z9b hy)⟩;have D:=Lib.hid hb;have hmf:∀ fn first cap w,(Instr.makeFunc fn first cap).run Tryz.prog w=.ok (.func fn first cap) w:=fun _ _ _ _=>rfl
  clear eg hb hc hs hm;unfold OutF
  go_enter Tryz.func198,Tryz.ntmps198
  go_wp2_with fail;go_ret;exact ⟨_,rfl,F.out,D.out⟩
theorem v3x (y:Value) (ls:List (List Nd)) (w:World) (hy:Rws w y ls) (hl:ls.length≤1000) (hf:ls.flatten.length≤1000000) :
    Calls Tryz.prog 197 #[y] w fun e w'=>∃ y',e=.returned y'∧Nds w' y' (nOf 12::ls.flatten)∧Below w.heap.size w w':=by
  have HM:=Lib.hid (Rx.y6f (nOf 12) y ls w hy hl hf);obtain ⟨L,hL⟩:∃ L,nOf 12::ls.flatten=L:=⟨_,rfl⟩
  rw [hL] at HM ⊢;obtain ⟨a,n,c,rfl⟩:=z9b hy;clear hy hL hf
  go_enter Tryz.func197,Tryz.ntmps197
  go_wp2_with fail;refine HM.out.mono ?_;rintro e w1 ⟨y1,rfl,hn,hb⟩;have N1:Hid (Nds w1 y1 L):=Lib.hid hn.rd;have D:=Lib.hid hb;obtain ⟨_,a1,c1,rfl,-⟩:=id N1.out;clear hn hb;go_wp2_with fail;go_ret;exact ⟨_,rfl,N1.out,D.out⟩
end St
namespace Me
open Go Go.RowKit Rw YtpingbiibbmcaaaGreatDoor.So Se Do
abbrev mvV (m:Mv):Value:=.agg #[.int .i64 m.p,.int .i64 m.h]
def Bm (w:World) (b:Nat) (m:Mv):Prop:=w.heap[b]?=some (.cells #[.int .i64 m.p,.int .i64 m.h] 71 (0,0))
theorem Bm.new (w:World) (m:Mv):Bm (w.alloc (.cells #[.int .i64 m.p,.int .i64 m.h] 71)) w.heap.size m:=by
  show (w.heap.push _)[w.heap.size]?=some _
  simp
theorem Bm.lt {w:World} {b:Nat} {m:Mv} (h:Bm w b m):b<w.heap.size:=Nat.lt_of_not_le fun hle=>by
  unfold Bm at h;rw [Array.getElem?_eq_none hle] at h
  cases h
theorem Bm.below {w w':World} {M b:Nat} {m:Mv} (h:Bm w b m) (hb:Below M w w') (hM:b<M):Bm w' b m:=(hb.block b hM).trans h
theorem Bm.cells {w:World} {b:Nat} {m:Mv} (h:Bm w b m):w.cell? ⟨b,0,none⟩=some (.int .i64 m.p)∧w.cell? ⟨b,1,none⟩=some (.int .i64 m.h)∧w.frozen? ⟨b,0,none⟩=false∧w.frozen? ⟨b,1,none⟩=false:=by
  unfold Bm at h;simp [World.cell?,World.frozen?,h]
theorem setM {w:World} {g:Nat} {c:Array Value} {t:TypeId} {fr:Nat × Nat} (o:Nat) (v:Value) (h:w.heap[g]?=some (.cells c t fr)):(w.setCell ⟨g,o,none⟩ v).heap[g]?=some (.cells (c.setIfInBounds o v) t fr):=by
  simp only [World.setCell,Array.getElem?_modify,if_true,h]
  rfl
abbrev put2 (w:World) (b:Nat) (x y:Value):World:=(w.setCell ⟨b,0,none⟩ x).setCell ⟨b,1,none⟩ y
theorem Bm.put {w:World} {b:Nat} {m:Mv} (h:Bm w b m) (n:Mv):Bm (put2 w b (.int .i64 n.p) (.int .i64 n.h)) b n:=setM 1 _ (setM 0 _ h)
theorem ret_mv {fn:Func} {p u:Tmp} {R:Ending→World→Prop} {a:Act} {w:World} {b:Nat} {m:Mv} {v:Value} (h:fn.results=#[.cell p 71,.tmp u]) (hp:a.tmps.getD p undef=.pointer (some ⟨b,0,none⟩)) (hu:a.tmps.getD u undef=v) (hb:Bm w b m) (hd:a.defers=[])
    (hR:R (.returned (.tuple #[mvV m,v])) w):bodyPost Tryz.prog fn R .ret a w:=
  bodyPost_ret (by
    rw [results_cell_tmp h,hp,hu];simp [asAddr,run_loadVar_row w b _ 71 _ (0,0) _ hb Tryz.underlying71 rfl (by kernel_rfl)]) hd hR
end Me
namespace St
open Go Go.RowKit Rw YtpingbiibbmcaaaGreatDoor.So Se Do Sp Me
def mdK (ls:List (List Nd)) (kk h:Int):List Nd:=
  if h=2 then ls.getD 0 [] else if h=3 then ls.getD 1 [] else if h=4∧kk=10 then nOf 12::(ls.getD 0 []++ls.getD 1 []) else if h=5∧kk=10 then [nEnd 3,nOf 2] else if h=5 then [⟨11,⟨#[]⟩,3⟩] else [⟨11,⟨#[]⟩,1⟩]
theorem mdR_K (L:List Nd) (h:Int):mdR L h=mdK (kids L) (kn L 0) h:=rfl
def Way (kk h:Int):Prop:=(kk=1∧h=1)∨(kk=4∧h=4)∨(kk=4∧h=5)∨(kk=6∧h=2)∨(kk=6∧h=3)∨(kk=10∧h=4)∨(kk=10∧h=5)
theorem x3f (kk:Int) (k:Nat) (h:Int) (hh:(h=2∧k=0)∨(h=3∧k=1)) (ls:List (List Nd)) (w:World) (h2:ls.length=2) :
    Calls Tryz.prog 130 #[.int .i64 kk,.int .i64 h] w (OutF w ls (ls.getD k [])):=by
  have HK:=Lib.hid (fun w1=>kid_any k ls w1 (by omega));unfold OutF at *
  rcases hh with ⟨rfl,rfl⟩ | ⟨rfl,rfl⟩
  all_goals
    clear h2
    go_enter Tryz.func130,Tryz.ntmps130
    go_wp2_with fail;refine (HK.out _).mono ?_;rintro e w1 ⟨f,rfl,hf,hb⟩;have D:=Lib.hid hb;have F:=Lib.hid hf;obtain ⟨fn,caps,rfl,-⟩:=id hf;clear hb hf;go_wp2_with fail;go_ret;exact ⟨_,rfl,F.out,D.out⟩
theorem x6o (ls:List (List Nd)) (w:World) (h2:ls.length=2) (hf:ls.flatten.length≤1000000) :
    Calls Tryz.prog 130 #[.int .i64 10,.int .i64 4] w (OutF w ls (nOf 12::(ls.getD 0 []++ls.getD 1 []))):=by
  have eg:∀ args w,(callFunc 197 args).run Tryz.prog w=.ok (.enter 197 args) w:=enters_of Tryz.func197 (by kernel_rfl) rfl
  have e:nOf 12::(ls.getD 0 []++ls.getD 1 [])=nOf 12::ls.flatten:=by
    obtain ⟨a,b,rfl⟩:∃ a b,ls=[a,b]:=by
      match ls,h2 with
      | [a,b],_=>exact ⟨a,b,rfl⟩
    simp
  rw [e];have F:Hid (FnV w (.func (.func 197) #[] #[]) ls (nOf 12::ls.flatten)):=Lib.hid ⟨_,_,rfl,eg,fun w1 y _ hy=>v3x y ls w1 hy (by omega) hf⟩;clear eg e h2 hf;unfold OutF
  go_enter Tryz.func130,Tryz.ntmps130
  go_wp2_with fail;go_ret;exact ⟨_,rfl,F.out,Below.refl _ _⟩
theorem y0o (kk h sg:Int) (hh:(kk=1∧h=1∧sg=1)∨(kk=4∧h=4∧sg=1)∨(kk=4∧h=5∧sg=3)) (ls:List (List Nd)) (w:World) :
    Calls Tryz.prog 130 #[.int .i64 kk,.int .i64 h] w (OutF w ls [⟨11,⟨#[]⟩,sg⟩]):=by
  have HA:=Lib.hid (fun s w1 hs=>always_any s [⟨11,⟨#[]⟩,sg⟩] ls w1 hs);have N:=Lib.hid (Se.y3m w [⟨11,⟨#[]⟩,sg⟩] 68);have B:=Lib.hid (z0b w (.cells (cls [(⟨11,⟨#[]⟩,sg⟩:Nd)]).toArray 68));unfold OutF at *
  rcases hh with ⟨rfl,rfl,rfl⟩ | ⟨rfl,rfl,rfl⟩ | ⟨rfl,rfl,rfl⟩
  all_goals
    go_enter Tryz.func130,Tryz.ntmps130
    go_wp2_with fail;refine (HA.out _ _ N.out).mono ?_;rintro e w1 ⟨f,rfl,hf,hb⟩;have D:=Lib.hid (B.out.trans (hb.mono B.out.size));have F:=Lib.hid hf;obtain ⟨fn,caps,rfl,-⟩:=id hf;clear hb hf;go_wp2_with fail;go_ret;exact ⟨_,rfl,F.out,D.out⟩
theorem v3j (ls:List (List Nd)) (w:World) :
    Calls Tryz.prog 130 #[.int .i64 10,.int .i64 5] w (OutF w ls [nEnd 3,nOf 2]):=by
  have HA:=Lib.hid (fun s w1 hs=>always_any s [nEnd 3,nOf 2] ls w1 hs);have N:=Lib.hid (Se.y3m w [nEnd 3,nOf 2] 68);have B:=Lib.hid (z0b w (.cells (cls [nEnd 3,nOf 2]).toArray 68));unfold OutF at *
  go_enter Tryz.func130,Tryz.ntmps130
  go_wp2_with fail;refine (HA.out _ _ N.out).mono ?_;rintro e w1 ⟨f,rfl,hf,hb⟩;have D:=Lib.hid (B.out.trans (hb.mono B.out.size));have F:=Lib.hid hf;obtain ⟨fn,caps,rfl,-⟩:=id hf;clear hb hf;go_wp2_with fail;go_ret;exact ⟨_,rfl,F.out,D.out⟩
theorem done_any (kk h:Int) (hh:Way kk h) (ls:List (List Nd)) (w:World) (h2:kk≠1→kk≠4→ls.length=2) (hf:ls.flatten.length≤1000000) :
    Calls Tryz.prog 130 #[.int .i64 kk,.int .i64 h] w (OutF w ls (mdK ls kk h)):=by
  rcases hh with ⟨rfl,rfl⟩ | ⟨rfl,rfl⟩ | ⟨rfl,rfl⟩ | ⟨rfl,rfl⟩ | ⟨rfl,rfl⟩ | ⟨rfl,rfl⟩ | ⟨rfl,rfl⟩
  · exact y0o 1 1 1 (.inl ⟨rfl,rfl,rfl⟩) ls w
  · exact y0o 4 4 1 (.inr (.inl ⟨rfl,rfl,rfl⟩)) ls w
  · exact y0o 4 5 3 (.inr (.inr ⟨rfl,rfl,rfl⟩)) ls w
  · exact x3f 6 0 2 (.inl ⟨rfl,rfl⟩) ls w (h2 (by decide) (by decide))
  · exact x3f 6 1 3 (.inr ⟨rfl,rfl⟩) ls w (h2 (by decide) (by decide))
  · exact x6o ls w (h2 (by decide) (by decide)) hf
  · exact v3j ls w
theorem kids_rws (v:Value) (l:List Nd) (w:World) (hv:Nds w v l) (hl:l.length≤1000000) :
    Calls Tryz.prog 97 #[v] w fun e w'=>∃ y,e=.returned y∧Rws w' y (kids l)∧Below w.heap.size w w':=by
  refine (Rx.v1g v l w hv hl).mono ?_;rintro e w' ⟨y,cs,rfl,h1,h2,hb⟩;exact ⟨y,rfl,⟨cs,h1.rd,h2.rwc⟩,hb⟩
theorem v4e (v f:Value) (l X:List Nd) (q:Nat) (w:World) (hv:Nds w v l) (hl:l.length≤400) (hX:X.length≤400) (hq:q<l.length) (hf:FnV w f (kids (l.drop q)) X) (hm:Nms (putR l (q:Int) X)) (hp:(putR l (q:Int) X).length≤1000) :
    Calls Tryz.prog 129 #[v,.int .i64 (q:Int),f] w (OutL (st (putR l (q:Int) X)) w):=by
  unfold OutL
  rcases hv.form with ⟨h0,_⟩ | ⟨b,o,c,rfl,hc,hat⟩
  · rw [h0] at hq; simp at hq
  have HK:=Lib.hid (kids_rws _ (l.drop q) w (y4g rfl hat q (by omega) hc) (by simp; omega));have HP:=Lib.hid (fun vx w1 (hb:Below w.heap.size w w1) (hx:Nds w1 vx X)=>putP_any _ vx l X (q:Int) w1 (hv.below hb) hx (by omega) (by omega));have HS:=Lib.hid (fun y w1 (hy:Nds w1 y (putR l (q:Int) X))=>z8z y _ w1 hy hp hm);unfold OutL at HS;obtain ⟨fn,caps,rfl,eg,H⟩:=hf;have HH:=Lib.hid H;obtain ⟨n,hn⟩:∃ n,l.length=n:=⟨_,rfl⟩
  rw [hn] at HK HP hq hc ⊢;have hcap:q<c:=by omega
  have hcq:¬ c=q:=by omega
  generalize putR l (q:Int) X=L at HP HS ⊢;clear hv hat hn hl hX hm hp H
  go_enter Tryz.func129,Tryz.ntmps129
  go_wp2_with fail;refine HK.out.mono ?_;rintro e w1 ⟨y1,rfl,h1,hb1⟩;have D1:=Lib.hid hb1;have R1:=Lib.hid h1;obtain ⟨a1,n1,c1,rfl⟩:=z9b h1;clear h1 hb1;go_wp2_with fail;refine (HH.out _ _ D1.out R1.out).mono ?_;rintro e w2 ⟨y2,rfl,h2,hb2⟩;have D2:=Lib.hid (D1.out.trans (hb2.mono D1.out.size));have N2:=Lib.hid h2;obtain ⟨_,a2,c2,rfl,-⟩:=id h2;clear h2 hb2;go_wp2_with fail;refine (HP.out _ _ D2.out N2.out).mono ?_;rintro e w3 ⟨y3,rfl,h3,hb3⟩;have D3:=Lib.hid (D2.out.trans (hb3.mono D2.out.size));have N3:Hid (Nds w3 y3 L):=Lib.hid (Ap.Rd.owned h3);obtain ⟨_,a3,c3,rfl,-⟩:=id N3.out;clear h3 hb3;go_wp2_with fail;refine (HS.out _ _ N3.out).mono ?_;rintro e w4 ⟨y4,rfl,h4,hb4⟩;have D4:=Lib.hid (D3.out.trans (hb4.mono D3.out.size));have N4:=Lib.hid h4;obtain ⟨_,a4,c4,rfl,-⟩:=id h4;clear h4 hb4;go_wp2_with fail;go_ret;exact ⟨_,rfl,N4.out,D4.out⟩
end St
end Go.Proofs.YtpingbiibbmcaaaGreatDoor
