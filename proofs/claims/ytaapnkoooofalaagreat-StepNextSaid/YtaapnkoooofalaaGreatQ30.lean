/- Plain: the move of any number; how many moves there are, and that they rise; numbers in decimal. The program's Active: goesOn, the row of what goes on, the walk. The program's doomed and Doomed: the walks. The document's Beside, Free: the walks. Plain: what comes of a row by a move; that it is what comes of its tree. -/
import Derived.Test.YtaapnkoooofalaaGreatQ26
import Derived.Test.YtaapnkoooofalaaGreatQ25
import Derived.Lib.ItoaNum
import Derived.Test.YtaapnkoooofalaaGreatQ27
import Derived.Test.YtaapnkoooofalaaGreatQ23
import Derived.Test.YtaapnkoooofalaaGreatQ18
import Derived.Shelf.Abstract
import Derived.OwnWalk
import Derived.Deep.QuietTactic
import Derived.Test.YtaapnkoooofalaaGreatQ28
import Derived.Test.YtaapnkoooofalaaGreatQ29
import Derived.Test.YtaapnkoooofalaaGreatQ11
import Derived.Test.YtaapnkoooofalaaGreatQ06

namespace Go.Proofs.YtaapnkoooofalaaGreat.Me
open Go Go.RowKit Rw So Se Do
set_option maxRecDepth 20000
theorem wt_kind:∀ (t:Tm) (l:List Nd) (i:Nat),AtT l i t→∀ k∈wt t i,wkAt l k=true:=by
  have one:∀ {t a:Tm} {x:Nd},(∀ (l:List Nd) (i:Nat),AtT l i a→∀ k∈wt a i,wkAt l k=true)→flat t=x::flat a→(∀ i,wt t i=wt a (i+1))→∀ (l:List Nd) (i:Nat),AtT l i t→∀ k∈wt t i,wkAt l k=true:=by
    intro t a x ia e hw l i h k hk;rw [hw] at hk;exact ia l (i+1) (at_one h e).2 k hk
  have left:∀ {t a b:Tm} {x:Nd},(∀ (l:List Nd) (i:Nat),AtT l i a→∀ k∈wt a i,wkAt l k=true)→flat t=x::(flat a++flat b)→(∀ i,wt t i=wt a (i+1))→∀ (l:List Nd) (i:Nat),AtT l i t→∀ k∈wt t i,wkAt l k=true:=by
    intro t a b x ia e hw l i h k hk;rw [hw] at hk;exact ia l (i+1) (at_two h e).2.1 k hk
  have here:∀ {t:Tm} {x:Nd},(∀ (l:List Nd) (i:Nat),AtT l i t→l[i]?=some x)→wk x.k=true→(∀ i,wt t i=[i])→∀ (l:List Nd) (i:Nat),AtT l i t→∀ k∈wt t i,wkAt l k=true:=by
    intro t x hx hw ht l i h k hk;rw [ht,List.mem_singleton] at hk;subst hk;rw [wk_at (hx l _ h),hw]
  intro t
  induction t with
  | act s=>exact here (x:=nAct s) (fun _ _ h=>at_none h rfl) rfl fun _=>rfl
  | yield=>exact here (x:=nOf 4) (fun _ _ h=>at_none h rfl) rfl fun _=>rfl
  | alt a b=>exact here (x:=nOf 6) (fun _ _ h=>(at_two h rfl).1) rfl fun _=>rfl
  | pair a b=>exact here (x:=nOf 10) (fun _ _ h=>(at_two h rfl).1) rfl fun _=>rfl
  | skip=>intro l i _ k hk; simp [wt] at hk
  | throw=>intro l i _ k hk; simp [wt] at hk
  | over s=>intro l i _ k hk; simp [wt] at hk
  | fin s c=>intro l i _ k hk; simp [wt] at hk
  | block a ia=>exact one (x:=nOf 9) ia rfl fun _=>rfl
  | seq a b ia ib=>exact left (x:=nOf 5) ia rfl fun _=>rfl
  | hand a b ia ib=>exact left (x:=nOf 8) ia rfl fun _=>rfl
  | going a b ia ib=>exact left (x:=nOf 12) ia rfl fun _=>rfl
  | stack a b ia ib=>exact left (x:=nOf 13) ia rfl fun _=>rfl
  | par a b ia ib=>
    intro l i h k hk;obtain ⟨_,ha,hb⟩:=at_two (x:=nOf 7) h rfl
    rcases List.mem_append.1 hk with hk | hk
    · exact ia l (i+1) ha k hk
    · exact ib l (i+1+sz a) hb k hk
theorem av_kind {l:List Nd} {z:Int} (h:z∈av l):kn l z=1∨kn l z=6∨kn l z=4∨kn l z=10:=by
  cases hs:setB l with
  | false=>rw [av_no hs] at h; cases h
  | true=>
    obtain ⟨t,rfl,hg,hn⟩:=set_iff.1 hs;obtain ⟨k,hk,rfl⟩:=(mem_av hg hn).1 h;have:=wt_kind t (flat t) 0 (AtT.self t) k hk;unfold wkAt at this;unfold kn;rw [Int.toNat_natCast]
    cases hx:(flat t)[k]? with
    | none=>rw [hx] at this; cases this
    | some x=>
      rw [hx] at this;have h2:wk x.k=true:=this;unfold wk at h2;simp only [Bool.or_eq_true,beq_iff_eq] at h2
      show x.k=1∨x.k=6∨x.k=4∨x.k=10
      omega
noncomputable def two (l:List Nd) (z:Int):Bool:=kn l z == 6 || ((kn l z == 4 || kn l z == 10) && fr l z)
def Up (x y:Mv):Prop:=x.p < y.p∨(x.p=y.p∧x.h < y.h)
theorem hw_up (k:Int) (f:Bool) (z:Int):(hw k f z).Pairwise Up∧∀ x∈hw k f z,x.p=z:=by
  unfold hw Up
  split
  · simp
  · split
    · simp
    · cases f <;> simp
def Dg (n0 n:Int) (out:List UInt8):Prop:=Lib.decDigits n0.natAbs=Lib.decDigits n.natAbs++out
def ld (n:Int):Nat:=(n.tmod 10).natAbs
end Go.Proofs.YtaapnkoooofalaaGreat.Me

namespace Go.Proofs.YtaapnkoooofalaaGreat.Do
open Go Go.RowKit Rw So Se
set_option maxRecDepth 20000
theorem infoBo:(Tryz.prog.info? 4).map (fun i=>(i.zero,i.size,i.bytes))=some (some (.bool false),1,1):=by kernel_rfl
structure OnS (n B g:Nat) (on:Nat→Bool) (w:World):Prop where
  box:w.cell? ⟨B,0,none⟩=some (.slice (some ⟨g,0,none⟩) n n)
  ne:B≠g
  cell:∀ j:Nat,j < n→w.cell? ⟨g,j,none⟩=some (.bool (on j))
  soft:∀ j:Nat,w.frozen? ⟨g,j,none⟩=false
theorem OnS.below {n B g M:Nat} {on:Nat→Bool} {w w':World} (h:OnS n B g on w) (hb:Below M w w') (hB:B < M) (hg:g < M):OnS n B g on w':=
  ⟨by rw [hb.cell hB]; exact h.box,h.ne,fun j hj=>by rw [hb.cell (p:=⟨g,j,none⟩) hg]; exact h.cell j hj,fun j=>(World.frozen?_of_block (hb.block _ hg)).trans (h.soft j)⟩
theorem OnS.set {n B g:Nat} {on:Nat→Bool} {w:World} (h:OnS n B g on w) (k:Nat) (hk:k < n):OnS n B g (fun j=>on j || decide (j=k)) (w.setCell ⟨g,k,none⟩ (.bool true)):=by
  refine ⟨by rw [cell_set_ne _ _ _ _ _ h.ne]; exact h.box,h.ne,fun j hj=>?_,fun j=>by rw [frozen_set]; exact h.soft j⟩
  by_cases e:j=k
  · subst e;rw [cell_set_eq (h.cell j hj)];simp
  · rw [cell_set_o (fun e'=>e e'.symm),h.cell j hj];simp [e]
theorem GotJ.set {base:Nat} {w:World} {v:Value} {l:List Int} (h:GotJ base w v l) {g:Nat} (hg:g < base) (o:Nat) (x:Value):GotJ base (w.setCell ⟨g,o,none⟩ x) v l:=by
  obtain ⟨⟨hl,h1⟩,h2⟩:=h;refine ⟨⟨hl,?_⟩,by rw [show (w.setCell ⟨g,o,none⟩ x).heap.size=w.heap.size by simp [World.setCell]]; exact h2⟩
  rcases h1 with h1 | ⟨g',cap,cur,rfl,hb,hh,hr⟩
  · exact .inl h1
  · exact .inr ⟨g',cap,cur,rfl,hb,by rw [Rx.heap_setCell,if_neg (by omega)]; exact hh,hr⟩
set_option maxHeartbeats 1000000 in
theorem goesOn_any (B g n k:Nat) (x:Bool) (w:World) (hB:w.cell? ⟨B,0,none⟩=some (.slice (some ⟨g,0,none⟩) n n)) (hk:k < n) (hc:w.cell? ⟨g,k,none⟩=some (.bool x)) (hf:w.frozen? ⟨g,k,none⟩=false) :
    Calls Tryz.prog 65 #[.int .i64 (k:Int),.pointer (some ⟨B,0,none⟩)] w fun e w'=>e=.returned (.tuple #[])∧w'=w.setCell ⟨g,k,none⟩ (.bool true):=by
  go_enter Tryz.func65,Tryz.ntmps65
  go_wp2_with fail;go_end0;exact ⟨rfl,rfl⟩
theorem on_chain {n B g:Nat} (P:World→Prop) (hP:∀ w j,P w→P (w.setCell ⟨g,j,none⟩ (.bool true))):∀ (ks:List Nat) (on:Nat→Bool) (w:World),(∀ k∈ks,k < n)→OnS n B g on w→P w→
    Chain 65 #[.pointer (some ⟨B,0,none⟩)] (fun w'=>OnS n B g (fun j=>on j || decide (j∈ks)) w'∧P w') ks w
  | [],on,w,_,h,hp=>by
    refine ⟨?_,hp⟩
    simpa using h
  | k::ks,on,w,hk,h,hp=>by
    have hkn:=hk k (List.mem_cons_self ..);refine (goesOn_any B g n k _ w h.box hkn (h.cell k hkn) (h.soft k)).mono ?_;rintro e w1 ⟨rfl,rfl⟩;refine ⟨rfl,?_⟩;have:=on_chain P hP ks _ _ (fun j hj=>hk j (List.mem_cons_of_mem _ hj)) (h.set k hkn) (hP w k hp)
    have e:(fun j=>(on j || decide (j=k)) || decide (j∈ks))=fun j=>on j || decide (j∈k::ks):=by
      funext j
      simp [Bool.or_assoc]
    rw [e] at this;exact this
theorem pushJ {base:Nat} {w:World} {v:Value} {l:List Int} (h:GotJ base w v l) (x:Int) (hl:l.length≤1000000) :
    ∃ v' w',(Builtin.append_ #[60,60] 60 #[v,.slice (some ⟨w.heap.size,0,none⟩) 1 1]).run Tryz.prog (w.alloc (.cells #[.int .i64 x] 3))=.ok v' w'∧GotJ base w' v' (l++[x])∧Below base w w':=by
  have hb:=below1 w (.cells #[.int .i64 x] 3);obtain ⟨v',w',h1,h2,h3⟩:=(h.below hb).row (int_new w x 3) (by simp; omega);exact ⟨v',w',h1,h2,(hb.mono h.2).trans h3⟩
theorem activeP_no (v:Value) (l:List Nd) (w:World) (hv:Nds w v l) (hS:Calls Tryz.prog 13 #[v] w fun e w'=>e=.returned (.bool false)∧Below w.heap.size w w') :
    Calls Tryz.prog 39 #[v] w fun e w'=>∃ y,e=.returned y∧Ints w' y []∧Below w.heap.size w w':=by
  have HS:=Lib.hid hS;obtain ⟨_,a,c,rfl,-⟩:=hv;clear hS
  go_enter Tryz.func39,Tryz.ntmps39
  go_wp2_with fail;refine HS.out.mono ?_;rintro e w1 ⟨rfl,hb1⟩;have D1:=Lib.hid hb1;clear hb1;go_wp2_with fail;go_ret;exact ⟨_,rfl,ints_nil _,D1.out⟩
abbrev toI (L:List Nat):List Int:=L.map Int.ofNat
theorem OnS.start {n:Nat} {w1 w2:World} (hg:w1.grownBy w2 none) (ho:w2.ownsRow w1.heap.size 4 1 (.slice (some ⟨w1.heap.size,0,none⟩) n n) n (madeCells (Value.bool false).cells (n*1)).toList) (ty:TypeId) :
    OnS n w2.heap.size w1.heap.size (fun _=>false) (w2.alloc (.cells #[.slice (some ⟨w1.heap.size,0,none⟩) n n] ty))∧w1.heap.size < w2.heap.size∧Below w1.heap.size w1 w2:=by
  have hb:=(Below.refl w1.heap.size w1).grown hg (Nat.le_refl _) (fun k hk=>by cases hk);have hb2:=below1 w2 (.cells #[.slice (some ⟨w1.heap.size,0,none⟩) n n] ty);rw [show (Value.bool false).cells=#[Value.bool false] from rfl,Nat.mul_one,toList_madeCells_one] at ho;obtain ⟨_,⟨h0,_⟩ | ⟨g,cap,cur,hv,_,hh,h1,h2,h3,h4⟩⟩:=ho
  · cases h0
  · cases hv
    have hlt:w1.heap.size < w2.heap.size:=Nat.lt_of_not_le fun hle=>by rw [Array.getElem?_eq_none hle] at hh; cases hh
    refine ⟨⟨?_,by omega,fun j hj=>?_,fun j=>?_⟩,hlt,hb⟩
    · rw [World.cell?_alloc_new]
      rfl
    · rw [hb2.cell (p:=⟨w1.heap.size,j,none⟩) hlt]
      have:cur.toList[j]?=some (.bool false):=by
        have e:(cur.toList.take (n*1))[j]?=(List.replicate n (Value.bool false))[j]?:=by rw [h4]
        rw [List.getElem?_take_of_lt (by omega)] at e;rw [e,List.getElem?_replicate,if_pos hj]
      simp only [World.cell?,hh]
      simpa using this
    · refine (World.frozen?_of_block (hb2.block _ hlt)).trans ?_;simp [World.frozen?,hh]
theorem run_len (l:List Nd):∀ (n i:Nat) (s:StaA),(runA l i n s).2.length≤s.2.length+n
  | 0,i,s=>Nat.le_refl _
  | n+1,i,s=>by
    rw [runA];have h:=run_len l n (i+1) (stpA l i s)
    have:(stpA l i s).2.length≤s.2.length+1:=by
      unfold stpA
      split
      · show (if wkAt l i=true then s.2++[i] else s.2).length≤_
        split
        · simp
        · omega
      · omega
    omega
theorem kids_on (b off c:Nat) (t:Tm) (k:Nat) (w wx:World) (n B g base:Nat) (on:Nat→Bool) (v:Value) (L:List Int) (hat:At w b off (flat t)) (hn:sz t=n) (hc:n≤c) (hl:n≤1000) (hk:k < n) (h1:OnS n B g on wx) (h2:GotJ base wx v L) (h3:Below w.heap.size w wx)
    (hB:B < wx.heap.size) (hg:g < base) (hgx:g < wx.heap.size) (hgw:w.heap.size≤g) :
    Calls Tryz.prog 67 #[.slice (some ⟨b,off,none⟩) n c,.int .i64 (k:Int),.func (.func 65) #[] #[.pointer (some ⟨B,0,none⟩)]] wx
      fun e w'=>e=.returned (.tuple #[])∧OnS n B g (fun j=>on j || decide (j∈kdA (flat t) k)) w'∧GotJ base w' v L∧Below w.heap.size w w'∧B < w'.heap.size∧g < w'.heap.size:=by
  have eg:∀ args w,(callFunc 65 args).run Tryz.prog w=.ok (.enter 65 args) w:=enters_of Tryz.func65 (by kernel_rfl) rfl;have hlen:(flat t).length=n:=by rw [Se.flat_len]; exact hn
  have hin:=kdA_in t (flat t) 0 (AtT.self t) k (Nat.zero_le _) (by omega);have hat2:At wx b off (flat t):=fun j hj=>⟨by rw [h3.cell (Ap.cell_lt (hat j hj).1)]; exact (hat j hj).1,by rw [h3.cell (Ap.cell_lt (hat j hj).2.1)]; exact (hat j hj).2.1,by rw [h3.cell (Ap.cell_lt (hat j hj).2.2)]; exact (hat j hj).2.2⟩
  have:=kids_any 65 #[.pointer (some ⟨B,0,none⟩)] eg (fun w'=>OnS n B g (fun j=>on j || decide (j∈kdA (flat t) k)) w'∧(GotJ base w' v L∧Below w.heap.size w w'∧B < w'.heap.size∧g < w'.heap.size)) b off c (flat t) k wx hat2 (by omega) (by omega) (by omega)
    (fun h7=>by
      have:=hin (k+1) (by rw [kdA_get (by omega),h7]; simp [kdK]);omega)
    (fun w0 hb=>on_chain (fun w'=>GotJ base w' v L∧Below w.heap.size w w'∧B < w'.heap.size∧g < w'.heap.size) (fun w' j ⟨p1,p2,p3,p4⟩=>⟨p1.set hg _ _,Rx.below_setCell p2 _ _ _ hgw,by rw [show (w'.setCell ⟨g,j,none⟩ (.bool true)).heap.size=w'.heap.size by simp [World.setCell]]; exact ⟨p3,p4⟩⟩) _ _ _
      (fun j hj=>by have:=hin j hj; omega) (h1.below hb hB hgx) ⟨h2.below hb,h3.trans (hb.mono h3.size),Nat.lt_of_lt_of_le hB hb.size,Nat.lt_of_lt_of_le hgx hb.size⟩)
  rw [hlen] at this;exact this
set_option maxHeartbeats 4000000 in
theorem activeP_go (b off c:Nat) (t:Tm) (w:World) (hat:At w b off (flat t)) (hc:sz t≤c) (hl:sz t≤400)
    (hS:Calls Tryz.prog 13 #[.slice (some ⟨b,off,none⟩) (sz t) c] w fun e w'=>e=.returned (.bool true)∧Below w.heap.size w w') :
    Calls Tryz.prog 39 #[.slice (some ⟨b,off,none⟩) (sz t) c] w fun e w'=>∃ y,e=.returned y∧Ints w' y (toI (wt t 0))∧Below w.heap.size w w':=by
  obtain ⟨i0,hi0,hz0,hs0,hb0⟩:=info_parts infoBo;have HS:=Lib.hid hS;have HAT:=Lib.hid hat;have HR:=Lib.hid (run_all t);have hfl:=Se.flat_len t;have hpos:=sz_pos t;obtain ⟨n,hn⟩:∃ n,sz t=n:=⟨_,rfl⟩
  have HKID:=Lib.hid (fun k wx B g base on v L hk h1 h2 h3 h4 h5 h6 h7=>kids_on b off c t k w wx n B g base on v L hat hn (by omega) (by omega) hk h1 h2 h3 h4 h5 h6 h7);rw [hn] at HS HR hfl hpos hc hl ⊢;generalize wt t 0=WT at HR ⊢;obtain ⟨l,hlt⟩:∃ l,flat t=l:=⟨_,rfl⟩
  rw [hlt] at HAT HR hfl HKID;clear hS hat hlt hn
  go_enter Tryz.func39,Tryz.ntmps39
  go_wp2_with fail;refine HS.out.mono ?_;rintro e w1 ⟨rfl,hb1⟩;have D1:=Lib.hid hb1;clear hb1;go_wp2_with (at_make; refine wpList_make_full _ rfl _ _ 83 rfl w1.heap.size 4 i0 _ 1 Tryz.underlying83 hi0 hz0 hs0 .i64 .i64 _ _ n rfl rfl rfl rfl (by rw [hb0]; omega) (by unfold maxLen; omega) (Nat.le_refl _) ?_; intro w2 hown2 hgrow2);obtain ⟨hon,hlt2,hb2⟩:=OnS.start hgrow2 hown2 83;obtain ⟨g,hg⟩:∃ g,w1.heap.size=g:=⟨_,rfl⟩
  obtain ⟨B,hB⟩:∃ B,w2.heap.size=B:=⟨_,rfl⟩
  have hb2':=hb2.mono D1.out.size;rw [hg,hB] at hon hlt2 ⊢;obtain ⟨W2,hW2⟩:∃ W2,w2.alloc (.cells #[.slice (some ⟨g,0,none⟩) n n] 83)=W2:=⟨_,rfl⟩
  have hsz:W2.heap.size=B+1:=by rw [← hW2,← hB]; simp
  have DW2:Below w.heap.size w W2:=by
    rw [← hW2];have h:=D1.out.trans hb2';exact h.trans ((below1 w2 _).mono h.size)
  have hgw:w.heap.size≤g:=by rw [← hg]; exact D1.out.size
  rw [hW2] at hon ⊢;have G0:=goesOn_any B g n 0 _ W2 hon.box (by omega) (hon.cell 0 (by omega)) (hon.soft 0);rw [show ((0:Nat):Int)=0 from rfl] at G0;refine G0.mono ?_;rintro e w3 ⟨rfl,hw3⟩
  have ON3:Hid (OnS n B g st0.1 w3):=Lib.hid (by
    have h:=hon.set 0 (by omega);rw [← hw3] at h;have e:(fun j=>(fun _=>false) j || decide (j=0))=st0.1:=by funext j; simp [st0]
    rw [e] at h;exact h)
  have D3:Hid (Below w.heap.size w w3):=Lib.hid (by rw [hw3]; exact Rx.below_setCell DW2 _ _ _ hgw)
  have HSZ:Hid (B < w3.heap.size∧g < w3.heap.size∧w.heap.size≤g):=Lib.hid (by
    rw [hw3,show (W2.setCell ⟨g,0,none⟩ (.bool true)).heap.size=W2.heap.size by simp [World.setCell]];omega)
  clear hon hlt2 hb2 hb2' hg hB hW2 hsz DW2 hgw G0 hw3 hown2 hgrow2 hi0 hz0 hs0 hb0 D1 HS;go_wp2_with fail
  go_loopw [5,18] (fun v i wr=>∃ k:Nat,k≤n∧i=.int .i64 k∧Hid (GotJ w3.heap.size wr v (toI (runA l 0 k st0).2))∧Hid (OnS n B g (runA l 0 k st0).1 wr)∧Hid (Below w.heap.size w wr∧B < wr.heap.size∧g < wr.heap.size)) (fun _ i _=>n - (intOf i).toNat)
  case atStart=>exact ⟨0,Nat.zero_le _,rfl,Lib.hid (GotJ.start _ _ (Nat.le_refl _)),ON3,Lib.hid ⟨D3.out,HSZ.out.1,HSZ.out.2.1⟩⟩
  case round=>
    obtain ⟨k,hk,rfl,HG,HO,HB⟩:=hrel;obtain ⟨va,vc,hv⟩:=HG.out.slice;obtain ⟨m,hm⟩:∃ m,(toI (runA l 0 k st0).2).length=m:=⟨_,rfl⟩
    rw [hm] at hv;subst hv
    by_cases hlt:k < n
    · have c1:=HO.out.box;have c2:=HO.out.cell k hlt;have HX:=Lib.hid (run_last l k st0);have HLEN:=Lib.hid (run_len l k 0 st0);have e1:=(HAT.out k (by omega)).1;have e2:wr.cell? ⟨b,off+k*3,none⟩=some (.int .i64 (l[k]'(by omega)).k):=by rw [HB.out.1.cell (Ap.cell_lt e1)]; exact e1
      have hw:=wk_at (List.getElem?_eq_getElem (l:=l) (i:=k) (by omega));obtain ⟨q,hq⟩:∃ q,(l[k]'(by omega)).k=q:=⟨_,rfl⟩
      rw [hq] at e2 hw;have HW:=Lib.hid hw;clear e1 hw hq;obtain ⟨s,hs⟩:∃ s,runA l 0 k st0=s:=⟨_,rfl⟩
      rw [hs] at HG HO HX HLEN c2
      have HL2:Hid ((toI s.2).length≤1000000):=Lib.hid (by
        have h:=HLEN.out;have:st0.2.length=0:=rfl;rw [List.length_map];omega)
      clear hs hm HLEN;obtain ⟨x,hx⟩:∃ x,s.1 k=x:=⟨_,rfl⟩
      rw [hx] at c2;have HX1:=Lib.hid hx;clear hx
      cases x with
      | false=>
        have HX2:Hid (runA l 0 (k+1) st0=s):=Lib.hid (by rw [HX.out]; unfold stpA; rw [if_neg (by rw [HX1.out]; simp)]);clear HX HX1 HL2;go_wp2_with fail
        go_roundw
        case rel=>exact ⟨k+1,by omega,by go_num,by rw [HX2.out]; exact HG,by rw [HX2.out]; exact HO,HB⟩
        case measure=>simp [intOf]; omega
      | true=>
        have HWT:=Lib.hid (waitsP_any q);have HX2:Hid (runA l 0 (k+1) st0=(fun j=>s.1 j || decide (j∈kdA l k),if wk q=true then s.2++[k] else s.2)):=Lib.hid (by rw [HX.out]; unfold stpA; rw [if_pos HX1.out,HW.out]);have HK:=Lib.hid (fun wx v L h1 h2 h3 h4 h5=>HKID.out k wx B g w3.heap.size s.1 v L hlt h1 h2 h3 h4 HSZ.out.2.1 h5 HSZ.out.2.2);clear HX HX1 HW HKID;obtain ⟨y,hy⟩:∃ y,wk q=y:=⟨_,rfl⟩
        rw [hy] at HWT HX2;clear hy
        cases y with
        | false=>
          go_wp2_with fail;refine (HWT.out _).mono ?_;rintro e w4 ⟨rfl,rfl⟩;go_wp2_with fail;refine (HK.out _ _ _ HO.out HG.out HB.out.1 HB.out.2.1 HB.out.2.2).mono ?_;rintro e w5 ⟨rfl,ho,hg,hb,h1,h2⟩;have HO5:=Lib.hid ho;have HG5:=Lib.hid hg;have HB5:=Lib.hid (show _∧_∧_ from ⟨hb,h1,h2⟩);clear ho hg hb h1 h2;go_wp2_with fail
          go_roundw
          case rel=>exact ⟨k+1,by omega,by go_num,by rw [HX2.out]; exact HG5,by rw [HX2.out]; exact HO5,HB5⟩
          case measure=>simp [intOf]; omega
        | true=>
          have HX3:Hid (runA l 0 (k+1) st0=(fun j=>s.1 j || decide (j∈kdA l k),s.2++[k])):=Lib.hid (by rw [HX2.out]; simp);clear HX2;obtain ⟨v',w',hrun,hg',hb'⟩:=pushJ HG.out (k:Int) HL2.out;have RUN:=Lib.hid hrun;have G':=Lib.hid hg';have O':=Lib.hid (HO.out.below hb' HSZ.out.1 HSZ.out.2.1);have B':Hid (Below w.heap.size w w'∧B < w'.heap.size∧g < w'.heap.size):=Lib.hid ⟨HB.out.1.trans (hb'.mono D3.out.size),Nat.lt_of_lt_of_le HB.out.2.1 (Nat.le_trans (Nat.le_refl _) (by have:=hb'.size; exact this)),Nat.lt_of_lt_of_le HB.out.2.2 hb'.size⟩;clear hrun hg' hb';go_wp2_with fail;refine (HWT.out _).mono ?_;rintro e w4 ⟨rfl,rfl⟩;go_wp2_with (at_builtin; refine Ap.wpList_append_run (by rfl) _ _ _ _ rfl _ _ rfl rfl v' w' RUN.out ?_);refine (HK.out _ _ _ O'.out G'.out B'.out.1 B'.out.2.1 B'.out.2.2).mono ?_;rintro e w5 ⟨rfl,ho,hg,hb,h1,h2⟩;have HO5:=Lib.hid ho;have HG5:=Lib.hid hg;have HB5:=Lib.hid (show _∧_∧_ from ⟨hb,h1,h2⟩);clear ho hg hb h1 h2;go_wp2_with fail
          go_roundw
          case rel=>exact ⟨k+1,by omega,by go_num,by rw [HX3.out,show toI ((fun j=>s.1 j || decide (j∈kdA l k),s.2++[k]):StaA).2=toI s.2++[(k:Int)] by simp [toI]]; exact HG5,by rw [HX3.out]; exact HO5,HB5⟩
          case measure=>simp [intOf]; omega
    · have hkl:k=n:=by omega
      subst hkl;rw [HR.out] at HG;go_wp2_with fail;go_ret;exact ⟨_,rfl,HG.out.ints,HB.out.1⟩
end Go.Proofs.YtaapnkoooofalaaGreat.Do

namespace Go.Proofs.YtaapnkoooofalaaGreat.Do
open Go Go.RowKit Rw So Se
set_option maxRecDepth 20000
abbrev Wdm (t:Tm):Prop:=∀ (b off c:Nat) (l:List Nd) (i:Nat) (w:World),At w b off l→AtT l i t→l.length≤c→l.length≤1000→
  Calls Tryz.prog 187 #[.slice (some ⟨b,off,none⟩) l.length c,.int .i64 (i:Int)] w fun e w'=>e=.returned (.bool (bangT t))∧Below w.heap.size w w'
theorem at_below {w w':World} {b off M:Nat} {l:List Nd} (h:At w b off l) (hb:Below M w w') (hM:M=w.heap.size):At w' b off l:=fun k hk=>by
  subst hM;exact ⟨by rw [hb.cell (Ap.cell_lt (h k hk).1)]; exact (h k hk).1,by rw [hb.cell (Ap.cell_lt (h k hk).2.1)]; exact (h k hk).2.1,by rw [hb.cell (Ap.cell_lt (h k hk).2.2)]; exact (h k hk).2.2⟩
structure DS (w:World) (B1 B2:Nat) (v:Value) (x:Bool) (wx:World):Prop where
  is:wx.cell? ⟨B1,0,none⟩=some (.bool x)
  soft:wx.frozen? ⟨B1,0,none⟩=false
  box:wx.cell? ⟨B2,0,none⟩=some v
  ne:B2≠B1
  old:w.heap.size≤B1
  bel:Below w.heap.size w wx
theorem DS.start (w:World) (v:Value) (t1 t2:TypeId):DS w (w.heap.size+1) w.heap.size v false ((w.alloc (.cells #[v] t1)).alloc (.cells #[.bool false] t2)):=by
  have b1:=below1 w (.cells #[v] t1);have b2:=below1 (w.alloc (.cells #[v] t1)) (.cells #[.bool false] t2);have hs:(w.alloc (.cells #[v] t1)).heap.size=w.heap.size+1:=by simp
  refine ⟨?_,?_,?_,by omega,by omega,b1.trans (b2.mono b1.size)⟩
  · rw [← hs,World.cell?_alloc_new]
    rfl
  · rw [← hs];simp [go_sem]
  · rw [b2.cell (p:=⟨w.heap.size,0,none⟩) (by rw [hs]; exact Nat.lt_succ_self _),World.cell?_alloc_new]
    rfl
theorem DS.below {w:World} {B1 B2:Nat} {v:Value} {x:Bool} {wx wy:World} (h:DS w B1 B2 v x wx) (hb:Below wx.heap.size wx wy):DS w B1 B2 v x wy:=
  ⟨by rw [hb.cell (Ap.cell_lt h.is)]; exact h.is,(World.frozen?_of_block (hb.block _ (Ap.cell_lt h.is))).trans h.soft,by rw [hb.cell (Ap.cell_lt h.box)]; exact h.box,h.ne,h.old,h.bel.trans (hb.mono h.bel.size)⟩
theorem DS.set {w:World} {B1 B2:Nat} {v:Value} {x:Bool} {wx:World} (h:DS w B1 B2 v x wx) (y:Bool):DS w B1 B2 v y (wx.setCell ⟨B1,0,none⟩ (.bool y)):=
  ⟨cell_set_eq h.is,by rw [frozen_set]; exact h.soft,by rw [cell_set_ne _ _ _ _ _ h.ne]; exact h.box,h.ne,h.old,Rx.below_setCell h.bel _ _ _ h.old⟩
set_option maxHeartbeats 1000000 in
theorem dp1_any {t:Tm} (W:Wdm t) (b off c:Nat) (l:List Nd) (i:Nat) (w wx:World) (B1 B2:Nat) (x:Bool) (hat:At w b off l) (htt:AtT l i t) (hc:l.length≤c) (hl:l.length≤1000) (hD:DS w B1 B2 (.slice (some ⟨b,off,none⟩) l.length c) x wx) :
    Calls Tryz.prog 212 #[.int .i64 (i:Int),.pointer (some ⟨B1,0,none⟩),.pointer (some ⟨B2,0,none⟩)] wx fun e w'=>e=.returned (.tuple #[])∧DS w B1 B2 (.slice (some ⟨b,off,none⟩) l.length c) (x || bangT t) w':=by
  have HD:=Lib.hid hD;have HW:=Lib.hid (fun wy (hb:Below wx.heap.size wx wy)=>W b off c l i wy (at_below (at_below hat hD.bel rfl) hb rfl) htt hc hl);have e1:=hD.is;have e2:=hD.box;have f1:=hD.soft;have KP:=Lib.hid (fun wy (hb:Below wx.heap.size wx wy)=>hD.below hb);clear hat htt hD
  cases x with
  | true=>
    clear HW KP
    go_enter Tryz.func212,Tryz.ntmps212
    go_wp2_with fail;go_end0;exact ⟨rfl,by rw [Bool.true_or]; exact HD.out.set true⟩
  | false=>
    go_enter Tryz.func212,Tryz.ntmps212
    go_wp2_with fail;refine (HW.out _ (Below.refl _ _)).mono ?_;rintro e w1 ⟨rfl,hb1⟩;have K1:=Lib.hid (KP.out _ hb1);have d1:=K1.out.is;have d2:=K1.out.soft;clear hb1;go_wp2_with fail;go_end0;exact ⟨rfl,by rw [Bool.false_or]; exact K1.out.set _⟩
set_option maxHeartbeats 2000000 in
theorem dp_no (b off c:Nat) (l:List Nd) (i:Nat) (w:World) (hat:At w b off l) (hi:i < l.length) (hk:l[i].k=1∨l[i].k=2∨l[i].k=3∨l[i].k=4∨l[i].k=6∨l[i].k=8∨l[i].k=9∨l[i].k=10) :
    Calls Tryz.prog 187 #[.slice (some ⟨b,off,none⟩) l.length c,.int .i64 (i:Int)] w fun e w'=>e=.returned (.bool false)∧Below w.heap.size w w':=by
  have e0:=(hat i hi).1;have hi2:(i:Int) < l.length:=by omega
  obtain ⟨k,hk2⟩:∃ k,l[i].k=k:=⟨_,rfl⟩
  rw [hk2] at e0 hk;have hb:=Ap.cell_lt e0;clear hat hk2
  rcases hk with rfl | rfl | rfl | rfl | rfl | rfl | rfl | rfl
  all_goals
    go_enter Tryz.func187,Tryz.ntmps187
    go_wp2_with fail;go_ret;exact ⟨rfl,below1 _ _⟩
set_option maxHeartbeats 2000000 in
theorem dp_end (b off c:Nat) (l:List Nd) (i:Nat) (w:World) (hat:At w b off l) (hi:i < l.length) (hk:l[i].k=11∨l[i].k=14) :
    Calls Tryz.prog 187 #[.slice (some ⟨b,off,none⟩) l.length c,.int .i64 (i:Int)] w fun e w'=>e=.returned (.bool (l[i].s == 2))∧Below w.heap.size w w':=by
  have e0:=(hat i hi).1;have e2:=(hat i hi).2.2;have hi2:(i:Int) < l.length:=by omega
  obtain ⟨k,hk2⟩:∃ k,l[i].k=k:=⟨_,rfl⟩
  obtain ⟨s,hs⟩:∃ s,l[i].s=s:=⟨_,rfl⟩
  rw [hk2] at e0 hk;rw [hs] at e2 ⊢;have hb:=Ap.cell_lt e0;clear hat hk2 hs
  rcases hk with rfl | rfl
  all_goals
    go_enter Tryz.func187,Tryz.ntmps187
    go_wp2_with fail;go_ret;exact ⟨rfl,below1 _ _⟩
set_option maxHeartbeats 4000000 in
theorem dp_go (b off c:Nat) (l:List Nd) (i:Nat) (w:World) (r:Bool) (hat:At w b off l) (hc:l.length≤c) (hl:l.length≤1000) (hi:i < l.length) (h7:l[i].k=7→i+1 < l.length) (hk:l[i].k=5∨l[i].k=12∨l[i].k=13∨l[i].k=7)
    (H:∀ w0 B1 B2,DS w B1 B2 (.slice (some ⟨b,off,none⟩) l.length c) false w0→Chain 212 #[.pointer (some ⟨B1,0,none⟩),.pointer (some ⟨B2,0,none⟩)] (fun w'=>DS w B1 B2 (.slice (some ⟨b,off,none⟩) l.length c) r w') (kdA l i) w0) :
    Calls Tryz.prog 187 #[.slice (some ⟨b,off,none⟩) l.length c,.int .i64 (i:Int)] w fun e w'=>e=.returned (.bool r)∧Below w.heap.size w w':=by
  have eg:∀ args w,(callFunc 212 args).run Tryz.prog w=.ok (.enter 212 args) w:=enters_of Tryz.func212 (by kernel_rfl) rfl;have e0:=(hat i hi).1;have hi2:(i:Int) < l.length:=by omega
  have HK:=Lib.hid (fun wx B1 B2 (hD:DS w B1 B2 (.slice (some ⟨b,off,none⟩) l.length c) false wx)=>kids_any 212 #[.pointer (some ⟨B1,0,none⟩),.pointer (some ⟨B2,0,none⟩)] eg (fun w'=>DS w B1 B2 (.slice (some ⟨b,off,none⟩) l.length c) r w') b off c l i wx (at_below hat hD.bel rfl) hc hl hi h7
    (fun w0 hb=>H w0 B1 B2 (hD.below hb)))
  obtain ⟨k,hk2⟩:∃ k,l[i].k=k:=⟨_,rfl⟩
  rw [hk2] at e0 hk;have hb:=Ap.cell_lt e0;clear hat hk2 H eg h7
  rcases hk with rfl | rfl | rfl | rfl
  all_goals
    go_enter Tryz.func187,Tryz.ntmps187
    go_wp2_with fail;refine (HK.out _ (w.heap.size+1) w.heap.size ?_).mono ?_
    · exact DS.start _ _ _ _
    rintro e w1 ⟨rfl,hD⟩;have d1:=hD.is;have D1:=Lib.hid hD.bel;clear hD;go_wp2_with fail;go_ret;exact ⟨rfl,D1.out⟩
theorem get_of {l:List Nd} {i:Nat} {x:Nd} (h:l[i]?=some x):∃ hi:i < l.length,l[i]=x:=List.getElem?_eq_some_iff.1 h
theorem doomed_any:∀ t:Tm,Wdm t:=by
  have leaf:∀ {t:Tm} {x:Nd},(x.k=1∨x.k=2∨x.k=3∨x.k=4∨x.k=6∨x.k=8∨x.k=9∨x.k=10)→(∀ l i,AtT l i t→l[i]?=some x)→bangT t=false→Wdm t:=by
    intro t x hx hA hb bb off c l i w hat htt hc hl;obtain ⟨hi,e⟩:=get_of (hA l i htt);rw [hb];exact dp_no bb off c l i w hat hi (by rw [e]; exact hx)
  have over:∀ {t:Tm} {x:Nd},(x.k=11∨x.k=14)→(∀ l i,AtT l i t→l[i]?=some x)→bangT t=(x.s == 2)→Wdm t:=by
    intro t x hx hA hb bb off c l i w hat htt hc hl;obtain ⟨hi,e⟩:=get_of (hA l i htt);have:=dp_end bb off c l i w hat hi (by rw [e]; exact hx);rw [e] at this;rw [hb];exact this
  have one:∀ {t a b:Tm} {x:Nd},Wdm a→(x.k=5∨x.k=12∨x.k=13)→flat t=x::(flat a++flat b)→bangT t=bangT a→Wdm t:=by
    intro t a b x ia hx e hb bb off c l i w hat htt hc hl;obtain ⟨h1,h2,h3⟩:=at_two htt e;obtain ⟨hi,ex⟩:=get_of h1
    have hkd:kdA l i=[i+1]:=by
      rw [kdA_at h1];unfold kdK;rw [if_neg (by omega),if_pos (by omega)]
    refine dp_go bb off c l i w _ hat hc hl hi (fun h=>by rw [ex] at h; omega) (by rw [ex]; omega) fun w0 B1 B2 hD=>?_
    rw [hkd,hb];refine (dp1_any ia bb off c l (i+1) w w0 B1 B2 false hat h2 hc hl hD).mono ?_;rintro e w1 ⟨rfl,h⟩;exact ⟨rfl,h⟩
  intro t
  induction t with
  | act s=>exact leaf (x:=nAct s) (by simp) (fun _ _ h=>at_none h rfl) rfl
  | skip=>exact leaf (x:=nOf 2) (by simp [nOf]) (fun _ _ h=>at_none h rfl) rfl
  | throw=>exact leaf (x:=nOf 3) (by simp [nOf]) (fun _ _ h=>at_none h rfl) rfl
  | yield=>exact leaf (x:=nOf 4) (by simp [nOf]) (fun _ _ h=>at_none h rfl) rfl
  | alt a b ia ib=>exact leaf (x:=nOf 6) (by simp [nOf]) (fun _ _ h=>(at_two h rfl).1) rfl
  | hand a b ia ib=>exact leaf (x:=nOf 8) (by simp [nOf]) (fun _ _ h=>(at_two h rfl).1) rfl
  | block a ia=>exact leaf (x:=nOf 9) (by simp [nOf]) (fun _ _ h=>(at_one h rfl).1) rfl
  | pair a b ia ib=>exact leaf (x:=nOf 10) (by simp [nOf]) (fun _ _ h=>(at_two h rfl).1) rfl
  | over s=>exact over (x:=⟨11,⟨#[]⟩,s⟩) (by simp) (fun _ _ h=>at_none h rfl) rfl
  | fin s c ic=>exact over (x:=nEnd s) (by simp) (fun _ _ h=>(at_one h rfl).1) rfl
  | seq a b ia ib=>exact one (x:=nOf 5) ia (by simp [nOf]) rfl rfl
  | going a b ia ib=>exact one (x:=nOf 12) ia (by simp [nOf]) rfl rfl
  | stack a b ia ib=>exact one (x:=nOf 13) ia (by simp [nOf]) rfl rfl
  | par a b ia ib=>
    intro bb off c l i w hat htt hc hl;obtain ⟨h1,h2,h3⟩:=at_two (x:=nOf 7) htt rfl;obtain ⟨hi,ex⟩:=get_of h1
    have hkd:kdA l i=[i+1+sz a,i+1]:=by
      rw [kdA_at h1,← h2.size]
      rfl
    have hlt:=h3.lt;have hp:=sz_pos b;refine dp_go bb off c l i w _ hat hc hl hi (fun _=>by omega) (by rw [ex]; simp [nOf]) fun w0 B1 B2 hD=>?_
    rw [hkd];refine (dp1_any ib bb off c l (i+1+sz a) w w0 B1 B2 false hat h3 hc hl hD).mono ?_;rintro e w1 ⟨rfl,h⟩;refine ⟨rfl,?_⟩;refine (dp1_any ia bb off c l (i+1) w w1 B1 B2 _ hat h2 hc hl h).mono ?_;rintro e w2 ⟨rfl,h'⟩;refine ⟨rfl,?_⟩
    have e3:bangT (.par a b)=(false || bangT b || bangT a):=by
      rw [show bangT (.par a b)=(bangT a || bangT b) from rfl,Bool.false_or,Bool.or_comm]
    rw [e3];exact h'
end Go.Proofs.YtaapnkoooofalaaGreat.Do

namespace Go.Proofs.YtaapnkoooofalaaGreat.Do
open Go Go.RowKit Rw So Se
set_option maxRecDepth 20000
theorem any_take {L:List Tm} {k:Nat} (h:k < L.length):(L.take (k+1)).any bangT=((L.take k).any bangT || bangT L[k]):=by
  rw [List.take_succ_eq_append_getElem h,List.any_append];simp
theorem free_from {l:List Nd} {t:Tm} (h:Goes t) (hn:Nf t) (e:flat t=l) (w:World) (v:Value) (hv:Nds w v l) :
    Calls Tryz.prog 127 #[v] w fun e w'=>e=.returned (.bool (bangT t))∧Below w.heap.size w w':=by
  subst e;have:=doomR_any v (flat t) w hv (by rw [Se.flat_len]; have:=h.2.1; omega) (nms_goes h.1);rw [dm_go h hn] at this;exact this
set_option maxHeartbeats 4000000 in
theorem freR_any (v:Value) (l:List Nd) (z:Int) (w:World) (hv:Nds w v l) (hl:l.length≤1000) (hm:Nms l) :
    Calls Tryz.prog 85 #[v,.int .i64 z] w fun e w'=>e=.returned (.bool (fr l z))∧Below w.heap.size w w':=by
  have HS:=Lib.hid (actR_any v l w hv hl hm);have HAV:Hid ((av l).length≤1000000):=Lib.hid (Nat.le_trans (av_len l) (by omega))
  by_cases hz:z∈av l
  · have hs:setB l=true:=by
      cases hs:setB l with
      | true=>rfl
      | false=>rw [av_no hs] at hz; cases hz
    obtain ⟨t,rfl,hg,hn⟩:=set_iff.1 hs;obtain ⟨k,hk,rfl⟩:=(mem_av hg hn).1 hz;rw [fr_go hg hn hk];have HI:Hid (decide ((k:Int)∈av (flat t))=true):=Lib.hid (decide_eq_true hz);have HP:=Lib.hid (fun w1 (hb:Below w.heap.size w w1)=>pathR_any t v w w1 0 k 0 (k:Int) rfl rfl (by have:=hg.2.1; omega) hk hb hv);unfold PathPost at HP;have HG:=Lib.hid (pth_goes t 0 k hk hg hn);have hlen:=pth_len t 0 k;have h1000:(pth t 0 k).1.length≤1000:=by have:=hg.2.1; omega
    obtain ⟨_,a,c,rfl,-⟩:=id hv;generalize (k:Int)=z at HI HP ⊢;generalize (pth t 0 k).2=d at HP ⊢;generalize (pth t 0 k).1=L at HP HG hlen h1000 ⊢;clear hv hm hs hz hk hlen
    go_enter Tryz.func85,Tryz.ntmps85
    go_wp2_with fail;refine HS.out.mono ?_;rintro e w1 ⟨y,rfl,hi,hb1⟩;have D1:=Lib.hid hb1;have I1:=Lib.hid hi;clear hb1 hi;go_wp2_with fail;refine (inR_any _ _ _ _ I1.out HAV.out).mono ?_;rw [HI.out];rintro e w2 ⟨rfl,hb2⟩;have D2:=Lib.hid (D1.out.trans (hb2.mono D1.out.size));clear hb2;go_wp2_with fail;refine (HP.out _ D2.out).mono ?_;rintro e w3 ⟨y3,rfl,hg3,hb3⟩;have D3:=Lib.hid (D2.out.trans (hb3.mono D2.out.size));have hr:=hg3.rws D3.out;clear hb3 hg3
    rcases Rws.form hr with ⟨h0,a3,c3,rfl⟩ | ⟨b3,o3,c3,rfl,hat⟩
    · have hL0:L=[]:=List.map_eq_nil_iff.1 h0;subst hL0;clear hr h0;go_wp2_with fail;refine Go.wp_loop_rounds 1 ?_;rw [rounds_succ];go_wp2_with fail;go_ret;exact ⟨ret_bool (by cases d <;> rfl),D3.out⟩
    · have HA:=Lib.hid hat;rw [List.length_map];clear hr hat;go_wp2_with fail
      go_loopw [7,8] (fun f i wr=>∃ k:Nat,k≤L.length∧i=.int .i64 k∧f=.bool (!d || (L.take k).any bangT)∧Hid (Below w3.heap.size w3 wr)) (fun _ i _=>L.length - (intOf i).toNat)
      case atStart=>exact ⟨0,Nat.zero_le _,rfl,by cases d <;> rfl,Lib.hid (Below.refl _ _)⟩
      case round=>
        obtain ⟨k,hkl,rfl,rfl,HB⟩:=hrel
        by_cases hlt:k < L.length
        · obtain ⟨yk,hc,hny⟩:=HA.out k (by rw [List.length_map]; exact hlt);have hcw:wr.cell? ⟨b3,o3+k,none⟩=some yk:=by rw [HB.out.cell (Ap.cell_lt hc)]; exact hc
          have hgk:=HG.out L[k] (List.getElem_mem hlt);rw [List.getElem_map] at hny;have HC:=Lib.hid (free_from hgk.1 hgk.2 rfl wr yk (hny.below HB.out));have HT:=Lib.hid (any_take hlt);obtain ⟨_,ak,ck,rfl,-⟩:=id hny;generalize bangT L[k]=z1 at HC HT
          cases hf:(!d || (L.take k).any bangT) with
          | true=>
            have HF:Hid ((!d || (L.take (k+1)).any bangT)=true):=Lib.hid (by rw [HT.out,← Bool.or_assoc,hf]; rfl);clear hf hgk hc;go_wp2_with fail
            go_roundw
            case rel=>exact ⟨k+1,by omega,by go_num,by rw [HF.out],HB⟩
            case measure=>simp [intOf]; omega
          | false=>
            have HF:Hid ((!d || (L.take (k+1)).any bangT)=z1):=Lib.hid (by rw [HT.out,← Bool.or_assoc,hf]; rfl);clear hf hgk hc;go_wp2_with fail;refine HC.out.mono ?_;rintro e w4 ⟨rfl,hb4⟩;have HB4:=Lib.hid (HB.out.trans (hb4.mono HB.out.size));clear hb4;go_wp2_with fail
            go_roundw
            case rel=>exact ⟨k+1,by omega,by go_num,by rw [HF.out],HB4⟩
            case measure=>simp [intOf]; omega
        · have hfull:L.take k=L:=List.take_of_length_le (by omega);rw [hfull];clear hfull;go_wp2_with fail;go_ret;exact ⟨rfl,D3.out.trans (HB.out.mono D3.out.size)⟩
  · rw [fr_no hz];have HI:Hid (decide (z∈av l)=false):=Lib.hid (decide_eq_false hz);obtain ⟨_,a,c,rfl,-⟩:=id hv;clear hv hm hz
    go_enter Tryz.func85,Tryz.ntmps85
    go_wp2_with fail;refine HS.out.mono ?_;rintro e w1 ⟨y,rfl,hi,hb1⟩;have D1:=Lib.hid hb1;have I1:=Lib.hid hi;clear hb1 hi;go_wp2_with fail;refine (inR_any _ _ _ _ I1.out HAV.out).mono ?_;rw [HI.out];rintro e w2 ⟨rfl,hb2⟩;have D2:=Lib.hid (D1.out.trans (hb2.mono D1.out.size));clear hb2;go_wp2_with fail;go_ret;exact ⟨rfl,D2.out⟩
end Go.Proofs.YtaapnkoooofalaaGreat.Do

namespace Go.Proofs.YtaapnkoooofalaaGreat.St
open Go Rw So Se Tr Mn Do Sp Me
def mdR (L:List Nd) (h:Int):List Nd:=
  if h=2 then (kids L).getD 0 [] else if h=3 then (kids L).getD 1 [] else if h=4∧kn L 0=10 then nOf 12::((kids L).getD 0 []++(kids L).getD 1 []) else if h=5∧kn L 0=10 then [nEnd 3,nOf 2] else if h=5 then [⟨11,⟨#[]⟩,3⟩] else [⟨11,⟨#[]⟩,1⟩]
theorem md_made {s u:Tm} {h:Int} {o:Option ByteArray} (k:Made s h o u) (q:List Nd):mdR (flat s++q) h=flat u:=by
  have two:∀ (n:Nd) (a b:Tm),ar n.k=2→kids ((n::(flat a++flat b))++q)=[flat a,flat b]:=fun n a b hk=>by
    have:=kidsA_two (n:=n) a b q hk;rw [List.cons_append,List.append_assoc];exact this
  unfold mdR
  cases k with
  | act s=>rfl
  | altl _ b=>rw [if_pos rfl,show flat (.alt u b)=nOf 6::(flat u++flat b) from rfl,two _ _ _ rfl]; rfl
  | altr a _=>rw [if_neg (by decide),if_pos rfl,show flat (.alt a u)=nOf 6::(flat a++flat u) from rfl,two _ _ _ rfl]; rfl
  | yieldg=>rfl
  | yields=>rfl
  | pairg a b=>rw [if_neg (by decide),if_neg (by decide),if_pos ⟨rfl,rfl⟩,show flat (.pair a b)=nOf 10::(flat a++flat b) from rfl,two _ _ _ rfl]; rfl
  | pairs a b=>rw [if_neg (by decide),if_neg (by decide),if_neg (fun h=>absurd h.1 (by decide)),if_pos ⟨rfl,rfl⟩]; rfl
noncomputable def nxL (l:List Nd) (m:Mv):List Nd:=if m∈enR l then st (putN l m.p.toNat (mdR (l.drop m.p.toNat) m.h)) else []
def nmAt (l:List Nd) (p:Nat):ByteArray:=match l[p]? with | some x=>x.n | none=>⟨#[]⟩
noncomputable def nxS (l:List Nd) (m:Mv):ByteArray:=if m∈enR l∧m.h=1 then nmAt l m.p.toNat else ⟨#[]⟩
noncomputable def nxE (l:List Nd) (m:Mv):Int:=if m∈enR l then 0 else 120
noncomputable def rfL (l:List Nd) (m:Mv):List Nd:=if m∈enR l∧m.h=1 then st (putN l m.p.toNat [nOf 3]) else []
noncomputable def rfE (l:List Nd) (m:Mv):Int:=if m∈enR l∧m.h=1 then 0 else 120
def mvOf (m:Mo):Mv:=⟨(m.p:Int),m.h⟩
theorem en_link {t:Tm} (hg:Goes t) (hn:Nf t):enR (flat t)=(mvs true t 0).map mvOf:=by
  have h1:(mvs true t 0).map mvOf=((mvs true t 0).map fun m=>(m.p,m.h)).map fun x=>(⟨(x.1:Int),x.2⟩:Mv):=by
    rw [List.map_map]
    rfl
  rw [h1,en_mvs];unfold enR en;rw [av_go hg hn,List.flatMap_map,List.map_flatMap]
  have key:∀ L:List Nat,(∀ p∈L,p∈wt t 0)→(L.flatMap fun p=>hw (kn (flat t) (Int.ofNat p)) (fr (flat t) (Int.ofNat p)) (Int.ofNat p))=L.flatMap fun p=>(hows (kat t 0 p) (freeAt true t 0 p) p).map fun x=>(⟨(x.1:Int),x.2⟩:Mv):=by
    intro L
    induction L with
    | nil=>intro _; rfl
    | cons p L ih=>
      intro h;rw [List.flatMap_cons,List.flatMap_cons,ih fun x hx=>h x (List.mem_cons_of_mem _ hx)]
      congr 1
      have e1:kn (flat t) (Int.ofNat p)=kat t 0 p:=rfl
      have e2:fr (flat t) (Int.ofNat p)=freeAt true t 0 p:=by
        have:=fr_go hg hn (h p (List.mem_cons_self ..))
        show fr (flat t) (p:Int)=_
        rw [this];unfold freeAt;rw [Bool.and_true]
      rw [e1,e2];unfold hw hows
      split
      · rfl
      · split
        · rfl
        · cases freeAt true t 0 p <;> rfl
  exact key _ fun _ h=>h
theorem mo_goes {t:Tm} (hg:Goes t) {mo:Mo} (h:mo∈mvs true t 0):Goes mo.r:=by
  obtain ⟨h1,h2,h3⟩:=hg;refine ⟨mv_rg t true 0 mo h h1,Nat.le_trans (mv_sz t true 0 mo h) h2,?_⟩;obtain ⟨i3,i4⟩:=mv_is t true 0 mo h;exact h3.imp i3 i4
theorem mo_in {t:Tm} (hg:Goes t) (hn:Nf t) {mo:Mo} (h:mo∈mvs true t 0):mvOf mo∈enR (flat t):=by
  rw [en_link hg hn];exact List.mem_map_of_mem h
theorem put_row (pre f post x:List Nd) (hf:Tre f):putN (pre++(f++post)) pre.length x=pre++(x++post)∧(pre++(f++post)).drop pre.length=f++post:=by
  have hd:(pre++(f++post)).drop pre.length=f++post:=List.drop_left ..;refine ⟨?_,hd⟩;obtain ⟨d,hT⟩:=hf
  have hs:size (f++post)=f.length:=by
    unfold Rw.size;rw [T_append post hT]
  have hp:=(T_bd hT).1;unfold putN;rw [hd,hs,if_neg (by omega),List.take_left,show pre.length+f.length=(pre++f).length by simp,← List.append_assoc,List.drop_left,List.append_assoc]
theorem nx_of {t:Tm} (hg:Goes t) (hn:Nf t) {mo:Mo} (h:mo∈mvs true t 0) :
    nxL (flat t) (mvOf mo)=flat (S mo.r)∧nxS (flat t) (mvOf mo)=mo.l.getD ⟨#[]⟩∧nxE (flat t) (mvOf mo)=0:=by
  have hin:=mo_in hg hn h;obtain ⟨pre,s,post,u,e1,e2,e3,hm⟩:=mv_put t true 0 mo h
  have hp:(mvOf mo).p.toNat=pre.length:=by
    show ((mo.p:Int)).toNat=_
    omega
  obtain ⟨p1,p2⟩:=put_row pre (flat s) post (flat u) (tre_flat s);refine ⟨?_,?_,if_pos hin⟩
  · unfold nxL;rw [if_pos hin,hp,e1,p2,show (mvOf mo).h=mo.h from rfl,md_made hm,p1,← e3,st_go (mo_goes hg h)]
  · unfold nxS nmAt;rw [hp,e1]
    have hget:(pre++(flat s++post))[pre.length]?=(flat s)[0]?:=by
      rw [List.getElem?_append_right (Nat.le_refl _),Nat.sub_self,List.getElem?_append_left (by rw [Se.flat_len]; exact sz_pos s)]
    rw [hget,← e1];have e:(mvOf mo).h=mo.h:=rfl;rw [e];generalize mo.h=hh at hm ⊢;generalize mo.l=oo at hm ⊢
    cases hm with
    | act s=>rw [if_pos ⟨hin,rfl⟩]; rfl
    | _=>rw [if_neg (fun k=>absurd k.2 (by decide))]; rfl
theorem en_mo {t:Tm} (hg:Goes t) (hn:Nf t) {m:Mv} (h:m∈enR (flat t)):∃ mo∈mvs true t 0,m=mvOf mo:=by
  rw [en_link hg hn] at h;obtain ⟨mo,h1,h2⟩:=List.mem_map.1 h;exact ⟨mo,h1,h2.symm⟩
theorem en_set {l:List Nd} {m:Mv} (h:m∈enR l):∃ t,l=flat t∧Goes t∧Nf t:=by
  cases hs:setB l with
  | true=>
    obtain ⟨t,rfl,hg,hn⟩:=set_iff.1 hs;exact ⟨t,rfl,hg,hn⟩
  | false=>
    unfold enR at h;rw [av_no hs] at h
    cases h
theorem rf_goes {t:Tm} (hg:Goes t) {p:Nat} (hp:p∈wt t 0) {s:ByteArray} (hs:sub t 0 p=.act s):Goes (plug t 0 p .throw):=by
  obtain ⟨h1,h2,h3⟩:=hg;obtain ⟨pre,post,e1,e2⟩:=plug_row t 0 p hp;have hsub:=plug_sub t 0 p hp;refine ⟨(plug_rg t 0 p hp h1).2 _ rfl,?_,?_⟩
  · have a1:=congrArg List.length (e2 .throw);have a2:=congrArg List.length (e2 (sub t 0 p));rw [hsub,hs] at a2;rw [Se.flat_len] at a1 a2;simp only [List.length_append,Se.flat_len,sz] at a1 a2;omega
  · have:=plug_is t 0 p hp .throw (fun k hk h=>by
      rw [hs] at h
      rcases hk with rfl | rfl
      · rfl
      · simp [is] at h)
    exact h3.imp (this 3 (.inl rfl)) (this 4 (.inr rfl))
theorem rf_of {t:Tm} (hg:Goes t) (hn:Nf t) {mo:Mo} (h:mo∈mvs true t 0) (h1:mo.h=1) :
    rfL (flat t) (mvOf mo)=flat (S (plug t 0 mo.p .throw))∧rfE (flat t) (mvOf mo)=0:=by
  have hin:=mo_in hg hn h;obtain ⟨s,hs,_,hp,_⟩:=refused hn h h1;obtain ⟨pre,post,e1,e2⟩:=plug_row t 0 mo.p hp;have hsub:=plug_sub t 0 mo.p hp;have et:flat t=pre++(flat (sub t 0 mo.p)++post):=by rw [← e2,hsub]
  have hpp:(mvOf mo).p.toNat=pre.length:=by
    show ((mo.p:Int)).toNat=_
    omega
  have hc:mvOf mo∈enR (flat t)∧(mvOf mo).h=1:=⟨hin,h1⟩
  refine ⟨?_,if_pos hc⟩;unfold rfL;rw [if_pos hc,hpp,et,(put_row pre (flat (sub t 0 mo.p)) post [nOf 3] (tre_flat _)).1];have:pre++([nOf 3]++post)=flat (plug t 0 mo.p .throw):=(e2 .throw).symm;rw [this,st_go (rf_goes hg hp hs)]
end Go.Proofs.YtaapnkoooofalaaGreat.St
