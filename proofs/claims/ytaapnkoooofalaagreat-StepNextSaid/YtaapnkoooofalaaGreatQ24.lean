/- The program's Over: slices.Clone over numbers, a range that is left early. What Settle tells of any row; what follows of that. The program's Ended at any row: the walk. slices.Reverse over numbers. Plain: what is beside a place, and whether a block is above it. The statements' own first look at package settle: the walk. Plain: which places of a row wait, whether it will end by a throw, what is beside a place, whether it may give way. Plain: the moves of a tree are those of its places that wait, in order; what stands there then. -/
import Derived.Test.YtaapnkoooofalaaGreatQ23
import Derived.Lib.SliceRun
import Derived.Test.YtaapnkoooofalaaGreatQ06
import Derived.BigQuiet
import Derived.Test.YtaapnkoooofalaaGreatQ18
import Derived.Test.YtaapnkoooofalaaGreatQ20
import Derived.Test.YtaapnkoooofalaaGreatQ16

namespace Go.Proofs.YtaapnkoooofalaaGreat.Pl
open Go Go.RowKit Rw So Ro
set_option maxRecDepth 20000
attribute [local go_sem] Oper.semAt_some
theorem own_madeI (w:World):(w.alloc (.cells #[] 3)).ownsRow w.heap.size 3 1 (.slice (some ⟨w.heap.size,0,none⟩) 0 0) 0 []:=
  ⟨rfl,.inr ⟨w.heap.size,0,#[],rfl,Nat.le_refl _,by show (w.heap.push _)[w.heap.size]?=_; simp,Nat.le_refl _,Nat.zero_le _,rfl,rfl⟩⟩
set_option maxHeartbeats 800000 in
theorem cloneI_any (x:Value) (L:List Nat) (w:World) (hx:Rf.Plc w x L) (hlen:L.length≤4398046511104) :
    Calls Tryz.prog 211 #[x] w fun e w'=>∃ v,e=.returned v∧w'.ownsRow w.heap.size 3 1 v L.length (Rx.ic L)∧Below w.heap.size w w':=by
  have q:∀ (w:World) (a:Option Addr) (n c n' c':Nat),(binOp .eql 60 (.slice a n c) (.slice none n' c')).run Tryz.prog w=.ok (.bool a.isNone) w:=fun w a n c n' c'=>Lib.run_eql_slice_nil w _ _ a n c n' c' Tryz.underlying60
  have hb0:Below w.heap.size w (w.alloc (.cells #[] 3)):=below1 w _;obtain ⟨i0,hi,hz,hs1,hb8⟩:=info_parts Rx.infoI
  obtain ⟨v1,w1,hrun,hown,_,hb,_⟩:=Ap.run_append_rd (P:=Tryz.prog) (ty:=60) Tryz.underlying60 hi hz hs1 hb8 (by rfl) (by omega) (own_madeI w) hb0.size (hx.below hb0)
    (by intro u hu; rw [List.mem_map] at hu; obtain ⟨k,_,rfl⟩:=hu; rfl) (by unfold maxLen; omega) (by omega)
  rw [List.nil_append,Nat.zero_add] at hown;obtain ⟨hl,a,c,rfl,_,hn,_⟩:=hx
  cases a with
  | none=>
    obtain ⟨h0,rfl⟩:=hn rfl;obtain rfl:L=[]:=List.eq_nil_of_length_eq_zero h0;clear hrun hown hb hb0 hl hn h0 hi hz hs1 hb8
    go_enter Tryz.func211,Tryz.ntmps211
    go_wp2_with fail;go_ret;exact ⟨_,rfl,⟨rfl,.inl ⟨rfl,rfl⟩⟩,Below.refl _ _⟩
  | some ad=>
    have R:=Lib.hid hrun;have O:=Lib.hid hown;have B:=Lib.hid (hb0.trans hb);clear hrun hown hb hb0 hn hl hi hz hs1 hb8
    go_enter Tryz.func211,Tryz.ntmps211
    go_wp2_with (at_builtin; refine Ap.wpList_append_run (by rfl) _ _ _ _ rfl _ _ rfl rfl v1 w1 R.out ?_);go_ret;exact ⟨_,rfl,O.out,B.out⟩
def ovI (l:List Nd) (k:Int):List Nat:=if 0≤k∧k < rounds l then ov l k.toNat else []
structure Ost (w:World) (l:List Nd) (kk:Int) (k:Nat) (W:World):Prop where
  ck:W.cell? ⟨w.heap.size,0,none⟩=some (.int .i64 kk)
  cr:W.cell? ⟨w.heap.size+1,0,none⟩=some (.slice none 0 0)
  fr:W.frozen? ⟨w.heap.size+1,0,none⟩=false
  no:∀ j:Nat,j < k→(j:Int)≠kk
  bel:Below w.heap.size w W
  size:w.heap.size+3≤W.heap.size
theorem Ost.turn {w:World} {l:List Nd} {T:Nat→Prop} {kk:Int} {k:Nat} {A B:World} (h:Ost w l kk k A) (hT:∀ t,T t→w.heap.size+3≤t∧t < A.heap.size) (ht:Turn T A B):Ost w l kk k B:=by
  have n0:∀ t,t < w.heap.size+3→¬ T t:=fun t h1 h2=>by have:=hT t h2; omega
  exact ⟨ht.cell h.ck (n0 _ (by show w.heap.size < _; omega)),ht.cell h.cr (n0 _ (by show w.heap.size+1 < _; omega)),(turn_frozen ht h.cr (n0 _ (by show w.heap.size+1 < _; omega))).trans h.fr,h.no,h.bel.trans (ht.below h.bel.size fun t h'=>by have:=hT t h'; omega),Nat.le_trans h.size ht.size⟩
structure Oed (w:World) (l:List Nd) (kk:Int) (T:Nat→Prop) (y:Value) (W:World):Prop where
  lt:0≤kk∧kk < rounds l
  cr:W.cell? ⟨w.heap.size+1,0,none⟩=some y
  own:Ow W y (ov l kk.toNat)
  apart:∀ g,y.ownBlock=some g→¬ T g
  bel:Below w.heap.size w W
  base:∀ g,y.ownBlock=some g→w.heap.size≤g
theorem own_up {w:World} {base size n:Nat} {e:TypeId} {v:Value} {xs:List Value} (h:w.ownsRow 0 e size v n xs) (hb:∀ g,v.ownBlock=some g→base≤g):w.ownsRow base e size v n xs:=by
  obtain ⟨h1,⟨rfl,h2⟩ | ⟨g,cap,cur,rfl,_,h3⟩⟩:=h
  · exact ⟨h1,.inl ⟨rfl,h2⟩⟩
  · exact ⟨h1,.inr ⟨g,cap,cur,rfl,hb g rfl,h3⟩⟩
theorem Oed.turn {w:World} {l:List Nd} {T:Nat→Prop} {kk:Int} {y:Value} {A B:World} (h:Oed w l kk T y A) (hT:∀ t,T t→w.heap.size+3≤t∧t < A.heap.size) (ht:Turn T A B):Oed w l kk T y B:=
  ⟨h.lt,ht.cell h.cr (fun h'=>by have:=(hT _ h').1; change _≤w.heap.size+1 at this; omega),h.own.turn ht h.apart,h.apart,h.bel.trans (ht.below h.bel.size fun t h'=>by have:=hT t h'; omega),h.base⟩
set_option maxHeartbeats 400000 in
theorem overP_own (v:Value) (l:List Nd) (kk:Int) (w:World) (hv:Nds w v l) (hl:l.length≤4398046511104) :
    Calls Tryz.prog 183 #[v,.int .i64 kk] w fun e w'=>∃ y,e=.returned y∧w'.ownsRow w.heap.size 3 1 y (ovI l kk).length (Rx.ic (ovI l kk))∧Below w.heap.size w w':=by
  have HN:=Lib.hid hv;obtain ⟨_,a,cap,rfl,-⟩:=hv;refine calls_of_marks Tryz.func183 rfl ?_;simp only [Tryz.ntmps183,List.size_toArray,List.length_cons,List.length_nil,Nat.reduceAdd,Nat.reduceSub,Array.replicate_succ,Array.replicate_zero,List.push_toArray,List.append_toArray,List.nil_append,List.cons_append];go_wp2_with fail;refine (nodes_any a l.length cap _).mono ?_;rintro e w' ⟨rfl,rfl⟩;go_wp2_with fail;obtain ⟨wl,hwl⟩:∃ wl,(((w.alloc (.cells #[.int .i64 kk] 3)).alloc (.cells #[.slice none 0 0] 60)).alloc (.cells #[.slice a l.length cap] 22))=wl:=⟨_,rfl⟩
  have hsz:wl.heap.size=w.heap.size+3:=by rw [← hwl]; simp
  have hbl:Below w.heap.size w wl:=by
    rw [← hwl];exact ((below1 w _).alloc (by simp) _).alloc (by simp; omega) _
  have b0:=cell_new_l w (.int .i64 kk) 3;have b1:=cell_new_l (w.alloc (.cells #[.int .i64 kk] 3)) (.slice none 0 0) 60;have b2:=cell_new_l ((w.alloc (.cells #[.int .i64 kk] 3)).alloc (.cells #[.slice none 0 0] 60)) (.slice a l.length cap) 22;simp only [World.size_alloc] at b1 b2;have hc0:=(cell_al (.cells #[.slice a l.length cap] 22) (cell_al (.cells #[.slice none 0 0] 60) b0)).1;have hc1:=cell_al (.cells #[.slice a l.length cap] 22) b1;have hc2:=b2.1;rw [hwl] at hc0 hc1 hc2 ⊢;clear b0 b1 b2 hwl
  refine wp_range (gf:=231) (lb:=#[.pointer (some ⟨w.heap.size+1+1,0,none⟩)]) rfl (enters_of Tryz.func231 (by kernel_rfl) rfl)
    (iter_any (w.heap.size+1+1) _ l w wl HN.out hl hbl hc2) (by omega) (Below.refl _ _) Told.size Told.stay
    (fun T k W=>Ost w l kk k W) (fun c T k W=>c=.ret∧∃ y,Oed w l kk T y W)
    (fun T k A B h hT ht=>h.turn (by rw [← hsz]; exact hT) ht) (fun T k A B h hT ht _=>h.turn (by rw [← hsz]; exact hT) ht) (fun c T k A B ⟨e,y,h⟩ hT ht _=>⟨e,y,h.turn (by rw [← hsz]; exact hT) ht⟩)
    (fun W hb _=>⟨by rw [hb.cell (Ap.cell_lt hc0)]; exact hc0,by rw [hb.cell (Ap.cell_lt hc1.1)]; exact hc1.1,(World.frozen?_of_block (hb.block _ (Ap.cell_lt hc1.1))).trans hc1.2,fun j hj=>absurd hj (Nat.not_lt_zero j),hbl.trans (hb.mono hbl.size),by have:=hb.size; omega⟩)
    (fun args=>{ tmps:=#[.slice a l.length cap,.int .i64 kk,undef,.pointer (some ⟨w.heap.size,0,none⟩),.pointer (some ⟨w.heap.size+1,0,none⟩),args.getD 0 undef,args.getD 1 undef,.slice a l.length cap,.func (.func 231) #[] #[.pointer (some ⟨w.heap.size+1+1,0,none⟩)],args.getD 0 undef,args.getD 1 undef,undef,undef,undef,undef,undef],defers:=[] }) ?assign ?body ?done ?stop
  case assign=>
    rintro l0 k args A K ⟨va,rfl,hva⟩ hK
    gi_wp2
    exact hK
  case body=>
    rintro l0 T k args A hp hT hk ⟨va,rfl,hva⟩;have hlt:=rounds_lt hk;have hck:=hp.ck;obtain ⟨_,aa,ca,rfl,-⟩:=id hva;have HP:=Lib.hid hp;have HT3:Hid (∀ t,T t→w.heap.size+3≤t∧t < A.heap.size):=Lib.hid (by rw [← hsz]; exact hT);have HVA:=Lib.hid hva;have HK:=Lib.hid hk
    have HLV:Hid ((ov l k).length≤4398046511104):=Lib.hid (by
      unfold ov;exact Nat.le_trans (List.length_filter_le _ _) (by simp; omega))
    clear hp hT hva hk
    by_cases he:(k:Int)=kk
    · subst he
      gi_wp2
      refine ⟨trivial,rfl,(CallsIn.inRound l0 (callsIn_wide.2 (cloneI_any _ _ A HVA.out HLV.out))).mono ?_⟩;rintro e w2 ⟨y,rfl,hown,hb⟩;have hlk:=HP.out.size;have hbA:=hb.size;have hr2:w2.cell? ⟨w.heap.size+1,0,none⟩=some (.slice none 0 0):=by rw [hb.cell (Ap.cell_lt HP.out.cr)]; exact HP.out.cr
      have hf2:w2.frozen? ⟨w.heap.size+1,0,none⟩=false:=(World.frozen?_of_block (hb.block _ (Ap.cell_lt HP.out.cr))).trans HP.out.fr
      have hyb:∀ g,y.ownBlock=some g→A.heap.size≤g:=fun g hg=>by
        obtain ⟨_,⟨rfl,_⟩ | ⟨g',cp,cur,rfl,hq,_⟩⟩:=hown
        · cases hg
        · cases hg; exact hq
      have hown0:Ow w2 y (ov l k):=Ap.own_base hown (Nat.zero_le _)
      have HE:Hid (Oed w l (k:Int) T y (w2.setCell ⟨w.heap.size+1,0,none⟩ y)):=by
        refine Lib.hid ⟨⟨by omega,by have:=HK.out; omega⟩,World.cell?_setCell_same' _ _ _ (by rw [hr2]; rfl),?_,fun g hg ht=>?_,?_,fun g hg=>by have:=hyb g hg; omega⟩
        · rw [Int.toNat_natCast];exact hown0.turn (M:=fun t=>t=w.heap.size+1) (Turn.setCell rfl) fun g hg e=>by have:=hyb g hg; omega
        · have h1:=hyb g hg;have h2:=HT3.out g ht;omega
        · exact (HP.out.bel.trans (hb.mono HP.out.bel.size)).trans ((Turn.setCell (T:=fun t=>t=w.heap.size+1) rfl).below (by omega) fun t h=>by omega)
      have HKp:Hid (Keep (fun t=>T t∨t < w.heap.size) A (w2.setCell ⟨w.heap.size+1,0,none⟩ y)):=Lib.hid
        ((Keep.of_below hb fun t h=>by
          rcases h with h | h
          · exact (HT3.out t h).2
          · omega).trans (Keep.setCell fun h=>by
          rcases h with h | h
          · have h1:=(HT3.out _ h).1;change _≤w.heap.size+1 at h1;omega
          · change w.heap.size+1 < w.heap.size at h;omega))
      obtain ⟨ya,yc,rfl⟩:=hown0.slice;clear hown hown0 hyb hb
      gi_wp2
      exact ⟨HKp.out,rfl,_,HE.out⟩
    · have g0:((k:Int) == kk)=false:=by rw [beq_eq_false_iff_ne]; exact he
      gi_wp2
      refine ⟨Keep.refl _ _,HP.out.ck,HP.out.cr,HP.out.fr,fun j hj=>?_,HP.out.bel,HP.out.size⟩
      by_cases h:j=k
      · subst h; exact he
      · exact HP.out.no j (by omega)
  case done=>
    rintro T W hp hTD hT hD;have hcr:=hp.cr;have hfr:=hp.fr;have hne:wl.heap.size≠w.heap.size+1:=by omega
    have e0:ovI l kk=[]:=by
      unfold ovI;rw [if_neg];rintro ⟨h1,h2⟩;exact hp.no kk.toNat (by omega) (by omega)
    have hD2:(W.setCell ⟨w.heap.size+1,0,none⟩ (.slice none 0 0)).heap[wl.heap.size]?=some (.deferred (some [])):=(Below.heap_setCell W _ _ _ hne).trans hD;have HD:=Lib.hid hD2;have hc5:=cell_kept (World.cell?_setCell_same' W ⟨w.heap.size+1,0,none⟩ (.slice none 0 0) (by rw [hcr]; rfl)) (grownBy_putObj' _ wl.heap.size (.deferred none)) (fun r e=>by cases e; exact ⟨_,hD2,rfl⟩);have HC5:=Lib.hid hc5;have hbs:=hp.bel.trans ((Turn.setCell (T:=fun t=>t=w.heap.size+1) (w:=W) (p:=⟨w.heap.size+1,0,none⟩) (v:=.slice none 0 0) rfl).below hp.bel.size fun t h=>by omega);have HB:=Lib.hid (hbs.trans ((putObj_turn (T:=fun t=>t=wl.heap.size) (o:=.deferred none) rfl).below hbs.size fun t h=>by omega));have HE0:=Lib.hid e0;clear hp hT hTD hD hD2 hc5 hbs e0;go_wp2_with fail;refine leaves_mark (v:=.slice none 0 0) HD.out ?_ ⟨_,rfl,?_,HB.out⟩
    · have hc6:=HC5.out;simp [results,Tryz.f183,go_sem,hc6]
    · rw [HE0.out];exact ⟨rfl,.inl ⟨rfl,rfl⟩⟩
  case stop=>
    rintro T c k W _ ⟨rfl,y,h⟩ hTD hT hD;have hne:y.ownBlock≠some wl.heap.size:=fun e=>h.apart _ e hTD
    have e0:ovI l kk=ov l kk.toNat:=by
      unfold ovI;rw [if_pos h.lt]
    have hc6:=cell_kept h.cr (grownBy_putObj' _ wl.heap.size (.deferred none)) (fun r e=>by cases e; exact ⟨_,hD,rfl⟩);refine wpIn_ret (leaves_mark (v:=y) hD ?_ ⟨_,rfl,?_,?_⟩)
    · simp [results,Tryz.f183,go_sem,hc6]
    · rw [e0];exact own_up (h.own.turn (M:=fun t=>t=wl.heap.size) (putObj_turn rfl) fun g hg e=>hne (by rw [hg,e])) h.base
    · exact h.bel.trans ((putObj_turn (T:=fun t=>t=wl.heap.size) rfl).below h.bel.size fun t h=>by omega)
end Go.Proofs.YtaapnkoooofalaaGreat.Pl

namespace Go.Proofs.YtaapnkoooofalaaGreat.Se
open Go Go.RowKit Rw So
set_option maxRecDepth 20000
theorem flat_inj:∀ t u:Tm,flat t=flat u→t=u:=by
  intro t
  induction t with
  | act s=>
    intro u h;have hk:kd u=1:=by unfold kd; rw [← h]; rfl
    cases u <;> try (simp [kd,flat,hd,nOf] at hk; done)
    · have e:=congrArg nml h;exact congrArg Tm.act e
  | skip=>
    intro u h;have hk:kd u=2:=by unfold kd; rw [← h]; rfl
    cases u <;> try (simp [kd,flat,hd,nOf] at hk; done)
    · rfl
  | throw=>
    intro u h;have hk:kd u=3:=by unfold kd; rw [← h]; rfl
    cases u <;> try (simp [kd,flat,hd,nOf] at hk; done)
    · rfl
  | yield=>
    intro u h;have hk:kd u=4:=by unfold kd; rw [← h]; rfl
    cases u <;> try (simp [kd,flat,hd,nOf] at hk; done)
    · rfl
  | over s=>
    intro u h;have hk:kd u=11:=by unfold kd; rw [← h]; rfl
    cases u <;> try (simp [kd,flat,hd,nOf] at hk; done)
    · have e:=congrArg sgl h;exact congrArg Tm.over e
  | block a ia=>
    intro u h;have hk:kd u=9:=by unfold kd; rw [← h]; rfl
    cases u <;> try (simp [kd,flat,hd,nOf] at hk; done)
    · have e:=congrArg kids h;rw [kids_block,kids_block] at e;injection e with e _;rw [ia _ e]
  | fin s c ic=>
    intro u h;have hk:kd u=14:=by unfold kd; rw [← h]; rfl
    cases u <;> try (simp [kd,flat,hd,nOf] at hk; done)
    · have e:=congrArg kids h;have e2:s=_:=congrArg sgl h;rw [kids_fin,kids_fin] at e;injection e with e _;rw [ic _ e,e2]
      rfl
  | seq a b ia ib=>
    intro u h;have hk:kd u=5:=by unfold kd; rw [← h]; rfl
    cases u <;> try (simp [kd,flat,hd,nOf] at hk; done)
    · have e:=congrArg kids h;rw [kids_seq,kids_seq] at e;injection e with e1 e;injection e with e2 _;rw [ia _ e1,ib _ e2]
  | alt a b ia ib=>
    intro u h;have hk:kd u=6:=by unfold kd; rw [← h]; rfl
    cases u <;> try (simp [kd,flat,hd,nOf] at hk; done)
    · have e:=congrArg kids h;rw [kids_alt,kids_alt] at e;injection e with e1 e;injection e with e2 _;rw [ia _ e1,ib _ e2]
  | par a b ia ib=>
    intro u h;have hk:kd u=7:=by unfold kd; rw [← h]; rfl
    cases u <;> try (simp [kd,flat,hd,nOf] at hk; done)
    · have e:=congrArg kids h;rw [kids_par,kids_par] at e;injection e with e1 e;injection e with e2 _;rw [ia _ e1,ib _ e2]
  | hand a b ia ib=>
    intro u h;have hk:kd u=8:=by unfold kd; rw [← h]; rfl
    cases u <;> try (simp [kd,flat,hd,nOf] at hk; done)
    · have e:=congrArg kids h;rw [kids_hand,kids_hand] at e;injection e with e1 e;injection e with e2 _;rw [ia _ e1,ib _ e2]
  | pair a b ia ib=>
    intro u h;have hk:kd u=10:=by unfold kd; rw [← h]; rfl
    cases u <;> try (simp [kd,flat,hd,nOf] at hk; done)
    · have e:=congrArg kids h;rw [kids_pair,kids_pair] at e;injection e with e1 e;injection e with e2 _;rw [ia _ e1,ib _ e2]
  | going a b ia ib=>
    intro u h;have hk:kd u=12:=by unfold kd; rw [← h]; rfl
    cases u <;> try (simp [kd,flat,hd,nOf] at hk; done)
    · have e:=congrArg kids h;rw [kids_going,kids_going] at e;injection e with e1 e;injection e with e2 _;rw [ia _ e1,ib _ e2]
  | stack a b ia ib=>
    intro u h;have hk:kd u=13:=by unfold kd; rw [← h]; rfl
    cases u <;> try (simp [kd,flat,hd,nOf] at hk; done)
    · have e:=congrArg kids h;rw [kids_stack,kids_stack] at e;injection e with e1 e;injection e with e2 _;rw [ia _ e1,ib _ e2]
noncomputable def st (l:List Nd):List Nd:=if h:of l=0 then [] else flat (S (goes_of h).choose)
theorem st_no {l:List Nd} (h:of l=0):st l=[]:=dif_pos h
theorem st_go {t:Tm} (h:Goes t):st (flat t)=flat (S t):=by
  have h0:=h.of;unfold st;rw [dif_neg h0];rw [flat_inj _ _ (goes_of h0).choose_spec.1]
theorem st_len (l:List Nd):(st l).length≤l.length:=by
  by_cases h:of l=0
  · rw [st_no h]; exact Nat.zero_le _
  · obtain ⟨t,rfl,hg⟩:=goes_of h;rw [st_go hg,flat_len,flat_len];exact S_sz t
theorem st_some {l:List Nd} (h:st l≠[]):∃ t,flat t=l∧Goes t∧st l=flat (S t):=by
  by_cases h0:of l=0
  · exact absurd (st_no h0) h
  · obtain ⟨t,rfl,hg⟩:=goes_of h0;exact ⟨t,rfl,hg,st_go hg⟩
theorem settleP_any (v:Value) (l:List Nd) (w:World) (hv:Nds w v l) (hl:l.length≤1000) (hm:Nms l):Calls Tryz.prog 37 #[v] w (OutL (st l) w):=by
  by_cases h:of l=0
  · rw [st_no h]; exact settleP_no v l w hv hl hm h
  · obtain ⟨t,rfl,hg⟩:=goes_of h;rw [st_go hg]; exact settleP_go v t w hv hm hg
theorem settleR_any (v:Value) (l:List Nd) (w:World) (hv:Nds w v l) (hl:l.length≤1000) (hm:Nms l):Calls Tryz.prog 28 #[v] w (OutL (st l) w):=by
  by_cases h:of l=0
  · rw [st_no h]; exact settleR_no v l w hv hl hm h
  · obtain ⟨t,rfl,hg⟩:=goes_of h;rw [st_go hg]; exact settleR_go v t w hv hm hg
theorem nms_goes {t:Tm} (h:rg t=true):Nms (flat t):=by
  intro x hx;have hr:rgt x=true:=(List.all_eq_true.1 h) x hx;obtain ⟨k,n,s⟩:=x
  show n.size≤_
  by_cases h1:k=1
  · subst h1;rw [rgt_act] at hr;simp only [Bool.and_eq_true,decide_eq_true_eq] at hr;omega
  · by_cases h2:k=11∨k=14
    · rw [rgt_sign n s h2] at hr;simp only [Bool.and_eq_true,decide_eq_true_eq] at hr;omega
    · have h0:¬ ar k < 0:=fun h0=>by unfold rgt at hr; rw [if_pos h0] at hr; cases hr
      rw [rgt_other n s h0 h1 h2] at hr;simp only [Bool.and_eq_true,decide_eq_true_eq] at hr;omega
theorem settledQ_any (v:Value) (l:List Nd) (w:World) (hv:Nds w v l) (hl:l.length≤1000) (hm:Nms l) :
    Calls Tryz.prog 13 #[v] w fun e w'=>e=.returned (.bool (decide (0 < l.length) && sameN (st l) l))∧Below w.heap.size w w':=by
  by_cases h0:0 < l.length
  · rw [decide_eq_true h0,Bool.true_and];exact settledQ_some v l (st l) w hv hl (by have:=st_len l; omega) h0 (settleP_any v l w hv hl hm)
  · have:l=[]:=List.eq_nil_of_length_eq_zero (by omega);subst this;obtain ⟨_,a,c,rfl,-⟩:=hv;refine (settledQ_none a c w).mono ?_;rintro e w' ⟨rfl,rfl⟩;exact ⟨rfl,Below.refl _ _⟩
end Go.Proofs.YtaapnkoooofalaaGreat.Se

namespace Go.Proofs.YtaapnkoooofalaaGreat.Se
open Go Go.RowKit Rw So
set_option maxRecDepth 20000
end Go.Proofs.YtaapnkoooofalaaGreat.Se

namespace Go.Proofs.YtaapnkoooofalaaGreat.Do
open Go Go.RowKit Rw So Se
set_option maxRecDepth 20000
structure Nums (n g:Nat) (f:Nat→Nat) (w:World):Prop where
  cell:∀ j:Nat,j < n→w.cell? ⟨g,j,none⟩=some (.int .i64 (f j:Int))
  soft:∀ j:Nat,w.frozen? ⟨g,j,none⟩=false
theorem Nums.below {n g M:Nat} {f:Nat→Nat} {w w':World} (h:Nums n g f w) (hb:Below M w w') (hg:g < M):Nums n g f w':=
  ⟨fun j hj=>by rw [hb.cell (p:=⟨g,j,none⟩) hg]; exact h.cell j hj,fun j=>(World.frozen?_of_block (hb.block _ hg)).trans (h.soft j)⟩
def rv (n:Nat) (f:Nat→Nat) (k m:Nat):Nat:=if m < k∨n < m+k+1 then f (n - 1 - m) else f m
theorem Nums.swap {n g:Nat} {f:Nat→Nat} {k:Nat} {w:World} (h:Nums n g (rv n f k) w) (hk:k+k+1 < n) :
    Nums n g (rv n f (k+1)) ((w.setCell ⟨g,k,none⟩ (.int .i64 (rv n f k (n - 1 - k):Int))).setCell ⟨g,n - 1 - k,none⟩ (.int .i64 (rv n f k k:Int))):=by
  refine ⟨fun j hj=>?_,fun j=>by rw [frozen_set,frozen_set]; exact h.soft j⟩
  by_cases e1:j=n - 1 - k
  · subst e1;rw [cell_set_eq (u:=.int .i64 (rv n f k (n - 1 - k):Int)) (by rw [cell_set_o (by omega)]; exact h.cell _ hj)]
    congr 3
    unfold rv;rw [if_neg (by omega),if_pos (by omega)]
    congr 1
    omega
  · rw [cell_set_o (fun e=>e1 e.symm)]
    by_cases e2:j=k
    · subst e2;rw [cell_set_eq (h.cell _ hj)]
      congr 3
      unfold rv;rw [if_neg (by omega),if_pos (by omega)]
    · rw [cell_set_o (fun e=>e2 e.symm),h.cell j hj]
      congr 3
      unfold rv
      by_cases e3:j < k∨n < j+k+1
      · rw [if_pos e3,if_pos (by omega)]
      · rw [if_neg e3,if_neg (by omega)]
theorem rev_empty (a:Option Addr) (c:Nat) (w:World):Calls Tryz.prog 184 #[.slice a 0 c] w fun e w'=>e=.returned (.tuple #[])∧w'=w:=by
  go_enter Tryz.func184,Tryz.ntmps184
  go_wp2_with fail;refine Go.wp_loop_rounds 1 ?_;rw [rounds_succ];go_wp2_with fail;go_end0;exact ⟨rfl,rfl⟩
set_option maxHeartbeats 4000000 in
theorem rev_any (g c n:Nat) (f:Nat→Nat) (w:World) (_hc:n≤c) (hn:1≤n) (hl:n≤1000) (h:Nums n g f w) :
    Calls Tryz.prog 184 #[.slice (some ⟨g,0,none⟩) n c] w fun e w'=>e=.returned (.tuple #[])∧Nums n g (fun m=>f (n - 1 - m)) w'∧Below g w w':=by
  have H:=Lib.hid h;clear h
  go_enter Tryz.func184,Tryz.ntmps184
  go_wp2_with fail
  go_loopw [2,3] (fun i j wr=>∃ k:Nat,k+k≤n∧i=.int .i64 k∧j=.int .i64 ((n:Int) - 1 - k)∧Hid (Below g w wr)∧Hid (Nums n g (rv n f k) wr)) (fun i _ _=>n - (intOf i).toNat)
  case atStart=>exact ⟨0,by omega,rfl,by go_num,Lib.hid (Below.refl _ _),Lib.hid ⟨fun j hj=>by rw [H.out.cell j hj]; congr 3; unfold rv; rw [if_neg (by omega)],H.out.soft⟩⟩
  case round=>
    obtain ⟨k,hk,rfl,rfl,HB,HS⟩:=hrel
    by_cases hlt:(k:Int) < (n:Int) - 1 - k
    · have hk2:k+k+1 < n:=by omega
      obtain ⟨j,hj⟩:∃ j,n - 1 - k=j:=⟨_,rfl⟩
      have hj2:(n:Int) - 1 - k=j:=by omega
      have e1:=HS.out.cell k (by omega);have e2:=HS.out.cell j (by omega);have f1:=HS.out.soft k;have f2:=HS.out.soft j;have NW:=Lib.hid (HS.out.swap hk2);rw [hj] at NW;rw [hj2] at hlt ⊢;have jn:(j:Int) < n:=by omega
      have kn:(k:Int) < n:=by omega
      generalize (rv n f k k:Int)=x at e1 NW;generalize (rv n f k j:Int)=y at e2 NW;have kj:(k:Int)≠j:=by omega
      have ckj:wr.cell? ⟨g,k,none⟩=some (.int .i64 x):=e1;have HJ:Hid ((j:Int)=(n:Int) - 1 - k∧k+k+1 < n):=Lib.hid ⟨hj2.symm,hk2⟩;clear hj hj2 hk2;go_wp2_with fail
      go_region
      go_wp2_with fail
      go_roundw
      case rel=>exact ⟨k+1,by have:=HJ.out; omega,by go_num,by have:=HJ.out; go_num,Lib.hid (Rx.below_setCell (Rx.below_setCell HB.out g _ _ (Nat.le_refl _)) g _ _ (Nat.le_refl _)).drew,Lib.hid ⟨NW.out.cell,NW.out.soft⟩⟩
      case measure=>simp [intOf]; omega
    · have H2:Hid (Nums n g (fun m=>f (n - 1 - m)) wr):=Lib.hid ⟨fun j hj=>by
        rw [HS.out.cell j hj]
        congr 3
        unfold rv
        split
        · rfl
        · congr 1
          omega,HS.out.soft⟩
      clear HS;go_wp2_with fail;go_end0;exact ⟨rfl,H2.out,HB.out⟩
end Go.Proofs.YtaapnkoooofalaaGreat.Do

namespace Go.Proofs.YtaapnkoooofalaaGreat.Do
open Go Rw So Se
def pth:Tm→Nat→Nat→List Tm × Bool
  | .par a b,i,p=>if i=p then ([],false) else if p < i+1+sz a then (if (pth a (i+1) p).2 then pth a (i+1) p else ((pth a (i+1) p).1++[b],false)) else (if (pth b (i+1+sz a) p).2 then pth b (i+1+sz a) p else ((pth b (i+1+sz a) p).1++[a],false))
  | .block a,i,p=>if i=p then ([],false) else ((pth a (i+1) p).1,true)
  | .seq a b,i,p=>if i=p then ([],false) else if p < i+1+sz a then pth a (i+1) p else pth b (i+1+sz a) p
  | .alt a b,i,p=>if i=p then ([],false) else if p < i+1+sz a then pth a (i+1) p else pth b (i+1+sz a) p
  | .hand a b,i,p=>if i=p then ([],false) else if p < i+1+sz a then pth a (i+1) p else pth b (i+1+sz a) p
  | .pair a b,i,p=>if i=p then ([],false) else if p < i+1+sz a then pth a (i+1) p else pth b (i+1+sz a) p
  | .going a b,i,p=>if i=p then ([],false) else if p < i+1+sz a then pth a (i+1) p else pth b (i+1+sz a) p
  | .stack a b,i,p=>if i=p then ([],false) else if p < i+1+sz a then pth a (i+1) p else pth b (i+1+sz a) p
  | .fin _ c,i,p=>if i=p then ([],false) else pth c (i+1) p
  | _,_,_=>([],false)
end Go.Proofs.YtaapnkoooofalaaGreat.Do

namespace Go.Proofs.YtaapnkoooofalaaGreat.Se
open Go Go.RowKit Rw So
set_option maxRecDepth 20000
theorem nds_new (w:World) (l:List Nd) (ty:TypeId):Nds (w.alloc (.cells (cls l).toArray ty)) (.slice (some ⟨w.heap.size,0,none⟩) l.length l.length) l:=by
  refine ⟨cls_len l,some ⟨w.heap.size,0,none⟩,l.length,rfl,Nat.le_refl _,fun h=>(by cases h),fun _=>⟨w.heap.size,0,rfl,fun j u hu=>?_⟩⟩;rw [Nat.zero_add,World.cell?_alloc_new]
  simpa using hu
def OutN' (n:Nat) (l:List Nd) (w:World) (e:Ending) (w':World):Prop:=∃ a c,e=.returned (.slice a n c)∧Nds w' (.slice a n c) l∧Below w.heap.size w w'
end Go.Proofs.YtaapnkoooofalaaGreat.Se

namespace Go.Proofs.YtaapnkoooofalaaGreat.Do
open Go Rw So Se
noncomputable def setB (l:List Nd):Bool:=decide (0 < l.length) && sameN (st l) l
theorem set_iff {l:List Nd}:setB l=true↔∃ t,flat t=l∧Goes t∧Nf t:=by
  unfold setB sameN;rw [Bool.and_eq_true,decide_eq_true_eq,decide_eq_true_eq]
  constructor
  · rintro ⟨h0,h⟩;have hn:st l≠[]:=fun e=>by rw [e] at h; rw [← h] at h0; simp at h0
    obtain ⟨t,rfl,hg,e⟩:=st_some hn;rw [e] at h;have:=flat_inj _ _ h;exact ⟨t,rfl,hg,by rw [← this]; exact S_nf t⟩
  · rintro ⟨t,rfl,hg,hn⟩;exact ⟨by rw [Se.flat_len]; exact sz_pos t,by rw [st_go hg,nf_S t hn]⟩
theorem set_go {t:Tm} (hg:Goes t):setB (flat t)=true↔Nf t:=by
  rw [set_iff]
  constructor
  · rintro ⟨u,e,_,h⟩;rw [← flat_inj _ _ e]; exact h
  · intro h; exact ⟨t,rfl,hg,h⟩
noncomputable def av (l:List Nd):List Int:=if h:setB l=true then (wt (set_iff.1 h).choose 0).map Int.ofNat else []
theorem av_go {t:Tm} (hg:Goes t) (hn:Nf t):av (flat t)=(wt t 0).map Int.ofNat:=by
  have h:setB (flat t)=true:=(set_go hg).2 hn;unfold av;rw [dif_pos h,flat_inj _ _ (set_iff.1 h).choose_spec.1]
theorem av_no {l:List Nd} (h:setB l=false):av l=[]:=dif_neg (by rw [h]; simp)
noncomputable def dm (l:List Nd):Bool:=if h:setB l=true then bangT (set_iff.1 h).choose else false
theorem dm_go {t:Tm} (hg:Goes t) (hn:Nf t):dm (flat t)=bangT t:=by
  have h:setB (flat t)=true:=(set_go hg).2 hn;unfold dm;rw [dif_pos h,flat_inj _ _ (set_iff.1 h).choose_spec.1]
theorem dm_no {l:List Nd} (h:setB l=false):dm l=false:=dif_neg (by rw [h]; simp)
noncomputable def bs (l:List Nd) (p:Int):List (List Nd):=if h:setB l=true∧p∈av l then (pth (set_iff.1 h.1).choose 0 p.toNat).1.map flat else []
noncomputable def fr (l:List Nd) (p:Int):Bool:=if h:setB l=true∧p∈av l then (!(pth (set_iff.1 h.1).choose 0 p.toNat).2) || (pth (set_iff.1 h.1).choose 0 p.toNat).1.any bangT else false
theorem mem_av {t:Tm} (hg:Goes t) (hn:Nf t) {p:Int}:p∈av (flat t)↔∃ k∈wt t 0,p=(k:Int):=by
  rw [av_go hg hn,List.mem_map];exact ⟨fun ⟨k,h,e⟩=>⟨k,h,e.symm⟩,fun ⟨k,h,e⟩=>⟨k,h,e.symm⟩⟩
theorem bs_go {t:Tm} (hg:Goes t) (hn:Nf t) {k:Nat} (hk:k∈wt t 0):bs (flat t) (k:Int)=(pth t 0 k).1.map flat:=by
  have h:setB (flat t)=true∧(k:Int)∈av (flat t):=⟨(set_go hg).2 hn,(mem_av hg hn).2 ⟨k,hk,rfl⟩⟩
  unfold bs;rw [dif_pos h,flat_inj _ _ (set_iff.1 h.1).choose_spec.1]
  rfl
theorem fr_go {t:Tm} (hg:Goes t) (hn:Nf t) {k:Nat} (hk:k∈wt t 0):fr (flat t) (k:Int)=((!(pth t 0 k).2) || (pth t 0 k).1.any bangT):=by
  have h:setB (flat t)=true∧(k:Int)∈av (flat t):=⟨(set_go hg).2 hn,(mem_av hg hn).2 ⟨k,hk,rfl⟩⟩
  unfold fr;rw [dif_pos h,flat_inj _ _ (set_iff.1 h.1).choose_spec.1]
  rfl
theorem bs_no {l:List Nd} {p:Int} (h:p∉av l):bs l p=[]:=dif_neg fun k=>h k.2
theorem fr_no {l:List Nd} {p:Int} (h:p∉av l):fr l p=false:=dif_neg fun k=>h k.2
theorem pth_goes:∀ (t:Tm) (i p:Nat),p∈wt t i→Goes t→Nf t→∀ u∈(pth t i p).1,Goes u∧Nf u:=by
  intro t
  induction t with
  | act s=>intro i p _ _ _ u hu; simp [pth] at hu
  | skip=>intro i p h; simp [wt] at h
  | throw=>intro i p h; simp [wt] at h
  | yield=>intro i p _ _ _ u hu; simp [pth] at hu
  | over s=>intro i p h; simp [wt] at h
  | fin s c ic=>intro i p h; simp [wt] at h
  | alt a b ia ib=>intro i p h _ _ u hu; simp only [wt,List.mem_singleton] at h; subst h; simp [pth] at hu
  | pair a b ia ib=>intro i p h _ _ u hu; simp only [wt,List.mem_singleton] at h; subst h; simp [pth] at hu
  | block a ia=>
    intro i p h hg hn u hu;have hin:=wt_in a _ _ h;obtain ⟨g1,g2,g3⟩:=hg;rw [rg_block] at g1;simp only [sz] at g2;simp [is] at g3;rw [pth,if_neg (by omega)] at hu;exact ia _ _ h ⟨g1,by omega,.inr g3⟩ hn.1 u hu
  | seq a b ia ib=>
    intro i p h hg hn u hu;have hin:=wt_in a _ _ h;obtain ⟨g1,g2,g3⟩:=hg;rw [rg_seq,Bool.and_eq_true] at g1;simp only [sz] at g2;simp [is] at g3;rw [pth,if_neg (by omega),if_pos hin.2] at hu;exact ia _ _ h ⟨g1.1,by omega,g3.imp (·.1) (·.1)⟩ hn.1 u hu
  | hand a b ia ib=>
    intro i p h hg hn u hu;have hin:=wt_in a _ _ h;obtain ⟨g1,g2,g3⟩:=hg;rw [rg_hand,Bool.and_eq_true] at g1;simp only [sz] at g2;simp [is] at g3;rw [pth,if_neg (by omega),if_pos hin.2] at hu;exact ia _ _ h ⟨g1.1,by omega,.inl g3.1⟩ hn.1 u hu
  | going a b ia ib=>
    intro i p h hg hn u hu;have hin:=wt_in a _ _ h;obtain ⟨g1,g2,g3⟩:=hg;rw [rg_going,Bool.and_eq_true] at g1;simp only [sz] at g2;simp [is] at g3;rw [pth,if_neg (by omega),if_pos hin.2] at hu;exact ia _ _ h ⟨g1.1,by omega,.inl g3.1⟩ hn.1 u hu
  | stack a b ia ib=>
    intro i p h hg hn u hu;have hin:=wt_in a _ _ h;obtain ⟨g1,g2,g3⟩:=hg;rw [rg_stack,Bool.and_eq_true] at g1;simp only [sz] at g2;simp [is] at g3;rw [pth,if_neg (by omega),if_pos hin.2] at hu;exact ia _ _ h ⟨g1.1,by omega,.inr g3.1⟩ hn.1 u hu
  | par a b ia ib=>
    intro i p h hg hn u hu;obtain ⟨g1,g2,g3⟩:=hg;rw [rg_par,Bool.and_eq_true] at g1;simp only [sz] at g2;have ga:Goes a:=⟨g1.1,by omega,by simp [is] at g3; exact g3.imp (·.1) (·.1)⟩
    have gb:Goes b:=⟨g1.2,by omega,by simp [is] at g3; exact g3.imp (·.2) (·.2)⟩
    rcases List.mem_append.1 h with h | h
    · have hin:=wt_in a _ _ h;rw [pth,if_neg (by omega),if_pos hin.2] at hu
      split at hu
      · exact ia _ _ h ga hn.1 u hu
      · rcases List.mem_append.1 hu with hu | hu
        · exact ia _ _ h ga hn.1 u hu
        · rw [List.mem_singleton] at hu; subst hu; exact ⟨gb,hn.2.1⟩
    · have hin:=wt_in b _ _ h;rw [pth,if_neg (by omega),if_neg (by omega)] at hu
      split at hu
      · exact ib _ _ h gb hn.2.1 u hu
      · rcases List.mem_append.1 hu with hu | hu
        · exact ib _ _ h gb hn.2.1 u hu
        · rw [List.mem_singleton] at hu; subst hu; exact ⟨ga,hn.1⟩
theorem wt_few:∀ (t:Tm) (i:Nat),(wt t i).length≤sz t:=by
  intro t
  induction t with
  | par a b ia ib=>intro i; simp only [wt,List.length_append,sz]; have:=ia (i+1); have:=ib (i+1+sz a); omega
  | seq a b ia ib=>intro i; simp only [wt,sz]; have:=ia (i+1); omega
  | hand a b ia ib=>intro i; simp only [wt,sz]; have:=ia (i+1); omega
  | going a b ia ib=>intro i; simp only [wt,sz]; have:=ia (i+1); omega
  | stack a b ia ib=>intro i; simp only [wt,sz]; have:=ia (i+1); omega
  | block a ia=>intro i; simp only [wt,sz]; have:=ia (i+1); omega
  | _=>intro i; simp [wt,sz]
theorem av_len (l:List Nd):(av l).length≤l.length:=by
  cases h:setB l with
  | false=>rw [av_no h]; exact Nat.zero_le _
  | true=>
    obtain ⟨t,rfl,hg,hn⟩:=set_iff.1 h;rw [av_go hg hn,List.length_map,Se.flat_len];exact wt_few t 0
theorem av_in {l:List Nd} {p:Int} (h:p∈av l):0≤p∧p < l.length:=by
  cases hs:setB l with
  | false=>rw [av_no hs] at h; cases h
  | true=>
    obtain ⟨t,rfl,hg,hn⟩:=set_iff.1 hs;obtain ⟨k,hk,rfl⟩:=(mem_av hg hn).1 h;have:=wt_in t 0 k hk;rw [Se.flat_len];omega
end Go.Proofs.YtaapnkoooofalaaGreat.Do

namespace Go.Proofs.YtaapnkoooofalaaGreat.Sp
open Go Rw So Se Tr Mn Do
def kat (t:Tm) (i p:Nat):Int:=match (flat t)[p - i]? with | some x=>x.k | none=>0
def freeAt (d:Bool) (t:Tm) (i p:Nat):Bool:=(!(pth t i p).2 && d) || (pth t i p).1.any bangT
def hows (k:Int) (f:Bool) (p:Nat):List (Nat × Int):=
  if k=1 then [(p,1)] else if k=6 then [(p,2),(p,3)] else (p,4)::if f then [(p,5)] else []
def en (d:Bool) (t:Tm) (i:Nat):List (Nat × Int):=(wt t i).flatMap fun p=>hows (kat t i p) (freeAt d t i p) p
theorem kat_l {t a:Tm} {n:Nd} {x:List Nd} (e:flat t=n::(flat a++x)) {i p:Nat} (h1:i+1≤p) (h2:p < i+1+sz a):kat t i p=kat a (i+1) p:=by
  unfold kat;rw [e,show p - i=(p - (i+1))+1 by omega,List.getElem?_cons_succ,List.getElem?_append_left (by rw [Se.flat_len]; omega)]
theorem kat_r {t a b:Tm} {n:Nd} (e:flat t=n::(flat a++flat b)) {i p:Nat} (h1:i+1+sz a≤p):kat t i p=kat b (i+1+sz a) p:=by
  unfold kat;rw [e,show p - i=(p - (i+1))+1 by omega,List.getElem?_cons_succ,List.getElem?_append_right (by rw [Se.flat_len]; omega),Se.flat_len,show p - (i+1) - sz a=p - (i+1+sz a) by omega]
theorem kat_1 {t a:Tm} {n:Nd} (e:flat t=n::flat a) {i p:Nat} (h1:i+1≤p) (h2:p < i+1+sz a):kat t i p=kat a (i+1) p:=
  kat_l (x:=[]) (by rw [e,List.append_nil]) h1 h2
theorem en_ctx {t a:Tm} {d d':Bool} {i j:Nat} (h:∀ p∈wt a j,kat t i p=kat a j p∧freeAt d t i p=freeAt d' a j p) :
    (wt a j).flatMap (fun p=>hows (kat t i p) (freeAt d t i p) p)=en d' a j:=by
  unfold en
  have:∀ l:List Nat,(∀ p∈l,kat t i p=kat a j p∧freeAt d t i p=freeAt d' a j p)→l.flatMap (fun p=>hows (kat t i p) (freeAt d t i p) p)=l.flatMap (fun p=>hows (kat a j p) (freeAt d' a j p) p):=by
    intro l
    induction l with
    | nil=>intro _; rfl
    | cons p l ih=>
      intro h;rw [List.flatMap_cons,List.flatMap_cons,ih fun q hq=>h q (List.mem_cons_of_mem _ hq),(h p List.mem_cons_self).1,(h p List.mem_cons_self).2]
  exact this _ h
theorem kat_0 {t:Tm} {n:Nd} {x:List Nd} (e:flat t=n::x) (i:Nat):kat t i i=n.k:=by
  unfold kat;rw [e,Nat.sub_self]
  rfl
theorem up_ph (f:Tm→Tm) (l:List Mo):(l.map (upm f)).map (fun m=>(m.p,m.h))=l.map (fun m=>(m.p,m.h)):=by
  rw [List.map_map]
  rfl
theorem en_mvs:∀ (t:Tm) (d:Bool) (i:Nat),(mvs d t i).map (fun m=>(m.p,m.h))=en d t i:=by
  have one:∀ {t a:Tm} {x:List Nd} {n:Nd} (e:flat t=n::(flat a++x)) (f:Tm→Tm) (d:Bool) (i:Nat),mvs d t i=(mvs d a (i+1)).map (upm f)→wt t i=wt a (i+1)→
      (∀ p,i+1≤p→p < i+1+sz a→pth t i p=pth a (i+1) p)→(mvs d a (i+1)).map (fun m=>(m.p,m.h))=en d a (i+1)→(mvs d t i).map (fun m=>(m.p,m.h))=en d t i:=by
    intro t a x n e f d i h1 h2 h3 ih;rw [h1,up_ph,ih];unfold en;rw [h2];refine (en_ctx fun p hp=>?_).symm;have hin:=wt_in a _ p hp;refine ⟨kat_l e hin.1 hin.2,?_⟩;unfold freeAt;rw [h3 p hin.1 hin.2]
  intro t
  induction t with
  | act s=>intro d i; simp only [mvs,en,wt,List.flatMap_cons,List.flatMap_nil,kat_0 (t:=.act s) rfl]; rfl
  | alt a b=>intro d i; simp only [mvs,en,wt,List.flatMap_cons,List.flatMap_nil,kat_0 (t:=.alt a b) rfl]; rfl
  | yield=>
    intro d i;have hf:freeAt d .yield i i=d:=by simp [freeAt,pth]
    simp only [mvs,en,wt,List.flatMap_cons,List.flatMap_nil,kat_0 (t:=.yield) rfl,hf]
    cases d <;> rfl
  | pair a b=>
    intro d i;have hf:freeAt d (.pair a b) i i=d:=by simp [freeAt,pth]
    simp only [mvs,en,wt,List.flatMap_cons,List.flatMap_nil,kat_0 (t:=.pair a b) rfl,hf]
    cases d <;> rfl
  | seq a b ia ib=>intro d i; exact one (t:=.seq a b) rfl _ d i rfl rfl (fun p h1 h2=>by rw [pth,if_neg (by omega),if_pos h2]) (ia d (i+1))
  | hand a b ia ib=>intro d i; exact one (t:=.hand a b) rfl _ d i rfl rfl (fun p h1 h2=>by rw [pth,if_neg (by omega),if_pos h2]) (ia d (i+1))
  | going a b ia ib=>intro d i; exact one (t:=.going a b) rfl _ d i rfl rfl (fun p h1 h2=>by rw [pth,if_neg (by omega),if_pos h2]) (ia d (i+1))
  | stack a b ia ib=>intro d i; exact one (t:=.stack a b) rfl _ d i rfl rfl (fun p h1 h2=>by rw [pth,if_neg (by omega),if_pos h2]) (ia d (i+1))
  | block a ia=>
    intro d i
    show ((mvs false a (i+1)).map (upm .block)).map (fun m=>(m.p,m.h))=_
    rw [up_ph,ia false (i+1)];refine (en_ctx (t:=.block a) (d:=d) (i:=i) fun p hp=>?_).symm;have hin:=wt_in a _ p hp;refine ⟨kat_1 (t:=.block a) rfl hin.1 hin.2,?_⟩;unfold freeAt;rw [pth,if_neg (by omega)];simp
  | par a b ia ib=>
    intro d i
    show ((mvs (d || bangT b) a (i+1)).map (upm (.par · b))++(mvs (d || bangT a) b (i+1+sz a)).map (upm (.par a ·))).map (fun m=>(m.p,m.h))=_
    rw [List.map_append,up_ph,up_ph,ia,ib];unfold en;rw [show wt (.par a b) i=wt a (i+1)++wt b (i+1+sz a) from rfl,List.flatMap_append]
    have e1:=en_ctx (t:=.par a b) (a:=a) (d:=d) (d':=d || bangT b) (i:=i) (j:=i+1) fun p hp=>by
      have hin:=wt_in a _ p hp;refine ⟨kat_l (t:=.par a b) rfl hin.1 hin.2,?_⟩;unfold freeAt;rw [pth,if_neg (by omega),if_pos hin.2];obtain ⟨o,ins⟩:=pth a (i+1) p
      cases ins <;> simp
      cases d <;> cases bangT b <;> simp
    have e2:=en_ctx (t:=.par a b) (a:=b) (d:=d) (d':=d || bangT a) (i:=i) (j:=i+1+sz a) fun p hp=>by
      have hin:=wt_in b _ p hp;refine ⟨kat_r (t:=.par a b) rfl hin.1,?_⟩;unfold freeAt;rw [pth,if_neg (by omega),if_neg (by omega)];obtain ⟨o,ins⟩:=pth b (i+1+sz a) p
      cases ins <;> simp
      cases d <;> cases bangT a <;> simp
    rw [e1,e2]
    rfl
  | _=>intro d i; rfl
inductive Made:Tm→Int→Option ByteArray→Tm→Prop
  | act (s):Made (.act s) 1 (some s) (.over 1)
  | altl (a b):Made (.alt a b) 2 none a
  | altr (a b):Made (.alt a b) 3 none b
  | yieldg:Made .yield 4 none (.over 1)
  | yields:Made .yield 5 none (.over 3)
  | pairg (a b):Made (.pair a b) 4 none (.going a b)
  | pairs (a b):Made (.pair a b) 5 none (.fin 3 .skip)
theorem mv_put:∀ (t:Tm) (d:Bool) (i:Nat),∀ m∈mvs d t i,∃ pre s post u,flat t=pre++(flat s++post)∧m.p=i+pre.length∧flat m.r=pre++(flat u++post)∧Made s m.h m.l u:=by
  have here:∀ {t:Tm} {m:Mo} {i:Nat},m.p=i→Made t m.h m.l m.r→∃ pre s post u,flat t=pre++(flat s++post)∧m.p=i+pre.length∧flat m.r=pre++(flat u++post)∧Made s m.h m.l u:=
    fun {t m i} h k=>⟨[],t,[],m.r,by simp,by simp [h],by simp,k⟩
  have down:∀ {a:Tm} {m:Mo} {i:Nat} (f:Tm→Tm) (n x:List Nd),(∀ c,flat (f c)=n++(flat c++x))→(∃ pre s post u,flat a=pre++(flat s++post)∧m.p=(i+n.length)+pre.length∧flat m.r=pre++(flat u++post)∧Made s m.h m.l u)→
      ∃ pre s post u,flat (f a)=pre++(flat s++post)∧(upm f m).p=i+pre.length∧flat (upm f m).r=pre++(flat u++post)∧Made s (upm f m).h (upm f m).l u:=by
    rintro a m i f n x hf ⟨pre,s,post,u,h1,h2,h3,h4⟩;refine ⟨n++pre,s,post++x,u,by rw [hf,h1]; simp,?_,?_,h4⟩
    · show m.p=_
      rw [h2,List.length_append];omega
    · show flat (f m.r)=_
      rw [hf,h3];simp
  intro t
  induction t with
  | act s=>intro d i m hm; simp only [mvs,List.mem_singleton] at hm; subst hm; exact here rfl (.act s)
  | alt a b=>
    intro d i m hm;simp only [mvs,List.mem_cons,List.not_mem_nil,or_false] at hm
    rcases hm with rfl | rfl
    · exact here rfl (.altl a b)
    · exact here rfl (.altr a b)
  | yield=>
    intro d i m hm
    cases d <;> simp [mvs] at hm
    · subst hm; exact here rfl .yieldg
    · rcases hm with rfl | rfl
      · exact here rfl .yieldg
      · exact here rfl .yields
  | pair a b=>
    intro d i m hm
    cases d <;> simp [mvs] at hm
    · subst hm; exact here rfl (.pairg a b)
    · rcases hm with rfl | rfl
      · exact here rfl (.pairg a b)
      · exact here rfl (.pairs a b)
  | seq a b ia ib=>intro d i m hm; obtain ⟨n,hn,rfl⟩:=List.mem_map.1 hm; exact down (.seq · b) [nOf 5] (flat b) (fun _=>rfl) (ia _ _ n hn)
  | hand a b ia ib=>intro d i m hm; obtain ⟨n,hn,rfl⟩:=List.mem_map.1 hm; exact down (.hand · b) [nOf 8] (flat b) (fun _=>rfl) (ia _ _ n hn)
  | going a b ia ib=>intro d i m hm; obtain ⟨n,hn,rfl⟩:=List.mem_map.1 hm; exact down (.going · b) [nOf 12] (flat b) (fun _=>rfl) (ia _ _ n hn)
  | stack a b ia ib=>intro d i m hm; obtain ⟨n,hn,rfl⟩:=List.mem_map.1 hm; exact down (.stack · b) [nOf 13] (flat b) (fun _=>rfl) (ia _ _ n hn)
  | block a ia=>intro d i m hm; obtain ⟨n,hn,rfl⟩:=List.mem_map.1 hm; exact down .block [nOf 9] [] (fun _=>by simp [flat]) (ia _ _ n hn)
  | par a b ia ib=>
    intro d i m hm
    rcases List.mem_append.1 hm with hm | hm
    · obtain ⟨n,hn,rfl⟩:=List.mem_map.1 hm; exact down (.par · b) [nOf 7] (flat b) (fun _=>rfl) (ia _ _ n hn)
    · obtain ⟨n,hn,rfl⟩:=List.mem_map.1 hm;refine down (.par a ·) (nOf 7::flat a) [] (fun _=>by simp [flat]) ?_;have:=ib _ _ n hn;rw [List.length_cons,Se.flat_len,show i+(sz a+1)=i+1+sz a by omega];exact this
  | _=>intro d i m hm; exact absurd hm (by simp [mvs])
end Go.Proofs.YtaapnkoooofalaaGreat.Sp
