/- Laws that the last text leans on. -/
import Derived.Test.YtaapnkoooofalaaGreatQ43

set_option maxRecDepth 20000
set_option maxHeartbeats 4000000
namespace Go.Proofs.YtaapnkoooofalaaGreat
namespace Mn
open Go Go.RowKit Tr
theorem y7v (T:TCon) (x y:Value) (X Y:List Pr) (w:World) (hx:PsO any w x X) (hy:PsO any w y Y) (hX:X.length≤1000000000000) (hY:Y.length≤1000000000000) (hrow:∀ x∈X,∀ t∈Y,x.p.a.length+t.p.a.length≤1000000∧t.q.a.length+x.q.a.length≤1000000)
    (hout:(seq X Y).length≤1000000000000) :
    Calls Tryz.prog 112 #[.int .i64 5,x,y] w (OutP any (seq X Y) w):=by
  have eg:∀ args w,(callFunc 167 args).run Tryz.prog w=.ok (.enter 167 args) w:=enters_of Tryz.func167 (by kernel_rfl) rfl
  have C:=Lib.hid (fun ty=>y6e 167 #[.pointer (some ⟨w.heap.size,0,none⟩)] eg any x X (seq1 Y) (w.alloc (.cells #[y] ty)) (hx.below (bel1 _ _))
    (fun wr hb t ht a a' ha ha'=>by
      have hc:wr.cell? ⟨w.heap.size,0,none⟩=some y:=by rw [hb.cell (p:=⟨w.heap.size,0,none⟩) (by simp)]; exact z2v _ _ _
      have hYY:=(((hy.imp (ok':=fun b=>any b∧b<(w.alloc (.cells #[y] ty)).heap.size) fun b hlt h=>⟨h,by simp; omega⟩).below (bel1 w (.cells #[y] ty))).below hb)
      exact x6v T _ w.heap.size a a' y t Y wr hc ha ha' hYY hY (hrow t ht)) hX hout)
  change Hid (∀ ty,Calls _ _ _ _ (OutP any (seq X Y) _)) at C;generalize seq X Y=L at C ⊢;obtain ⟨_,⟨_,a1,k1,rfl,_⟩,_⟩:=hx;obtain ⟨_,⟨_,a2,k2,rfl,_⟩,_⟩:=hy
  go_enter Tryz.func112,Tryz.ntmps112
  go_wp2_with fail;refine (C.out _).mono ?_;intro e w2 ho;have HO:=Lib.hid (ho.up (bel1 w _) fun b h=>.inl h);obtain ⟨a4,k4,rfl,_,_⟩:=ho;go_wp2_with fail;go_ret;exact HO.out
theorem y7t (T:TCon) (x y:Value) (X Y:List Pr) (w:World) (hx:PsO any w x X) (hy:PsO any w y Y) (hX:X.length≤1000000000000) (hY:Y.length≤1000000000000) (hrow:∀ x∈X,∀ t∈Y,x.p.a.length+t.p.a.length≤9∧x.q.a.length+t.q.a.length≤9)
    (hout:(par X Y).length≤1000000000000) (hin:∀ x∈X,∀ t∈Y,(pr x.p t.p).length≤1000000000000∧(pr x.q t.q).length≤1000000000000) :
    Calls Tryz.prog 112 #[.int .i64 7,x,y] w (OutP any (par X Y) w):=by
  have eg:∀ args w,(callFunc 169 args).run Tryz.prog w=.ok (.enter 169 args) w:=enters_of Tryz.func169 (by kernel_rfl) rfl
  have C:=Lib.hid (fun ty=>y6e 169 #[.pointer (some ⟨w.heap.size,0,none⟩)] eg any x X (fun x=>Y.flatMap (par1 x)) (w.alloc (.cells #[y] ty)) (hx.below (bel1 _ _))
    (fun wr hb t ht a a' ha ha'=>by
      have hc:wr.cell? ⟨w.heap.size,0,none⟩=some y:=by rw [hb.cell (p:=⟨w.heap.size,0,none⟩) (by simp)]; exact z2v _ _ _
      have hYY:=(((hy.imp (ok':=fun b=>any b∧b<(w.alloc (.cells #[y] ty)).heap.size) fun b hlt h=>⟨h,by simp; omega⟩).below (bel1 w (.cells #[y] ty))).below hb)
      exact x6u T _ w.heap.size a a' y t Y wr hc ha ha' hYY hY (hrow t ht) (Nat.le_trans (z6q (fun x=>Y.flatMap (par1 x)) ht) hout) (hin t ht)) hX hout)
  change Hid (∀ ty,Calls _ _ _ _ (OutP any (par X Y) _)) at C;generalize par X Y=L at C ⊢;obtain ⟨_,⟨_,a1,k1,rfl,_⟩,_⟩:=hx;obtain ⟨_,⟨_,a2,k2,rfl,_⟩,_⟩:=hy
  go_enter Tryz.func112,Tryz.ntmps112
  go_wp2_with fail;refine (C.out _).mono ?_;intro e w2 ho;have HO:=Lib.hid (ho.up (bel1 w _) fun b h=>.inl h);obtain ⟨a4,k4,rfl,_,_⟩:=ho;go_wp2_with fail;go_ret;exact HO.out
theorem y7u (x y:Value) (X Y:List Pr) (w:World) (hx:PsO any w x X) (hy:PsO any w y Y) (hXY:X.length+Y.length≤1000000000000) :
    Calls Tryz.prog 112 #[.int .i64 6,x,y] w (OutP any (X++Y) w):=by
  have hx':=hx;have hy':=hy;obtain ⟨cs,hr,hc⟩:=hx;obtain ⟨ds,hr',hc'⟩:=hy;have HXY:=Lib.hid (Cl.append EP.len hc' hc);have HCC:=Lib.hid (fun b w1 e0 e1 (hb:Below w.heap.size w w1)=>y8w b x y X.length Y.length cs ds w1 e0 e1 ((Ap.RdO.rd hr).below hb) ((Ap.RdO.rd hr').below hb) (Cl.cells _ EP.one hc) (Cl.cells _ EP.one hc') hXY);have HB:=Lib.hid (fun o o'=>bel2 w o o');obtain ⟨_,a1,k1,rfl,_⟩:=Ap.RdO.rd hr;obtain ⟨_,a2,k2,rfl,_⟩:=Ap.RdO.rd hr';have hll:(X++Y).length=X.length+Y.length:=List.length_append;unfold OutP;rw [hll];have HLL:=Lib.hid hll;clear hx' hy' hr hr' hc hc' hll
  go_enter Tryz.func112,Tryz.ntmps112
  go_wp2_with fail;refine (HCC.out _ _ (by simp [go_sem]) (by simp [go_sem]) (HB.out _ _)).mono ?_;rintro e w2 ⟨v,rfl,hown,hb2⟩;have B2:=Lib.hid ((HB.out _ _).trans (hb2.mono (HB.out _ _).size));have HX2:=Lib.hid (Cl.imp (EP.map fun _ _ h=>z0e (z0x h (ok':=fun b=>any b∨w.heap.size≤b) fun _ _ h=>.inl h) B2.out) HXY.out);have R:=Lib.hid (Ap.RdO.fresh hown);obtain ⟨_,a3,k3,rfl,_⟩:=Ap.Rd.owned hown;clear hown hb2;go_wp2_with fail;go_ret;refine ⟨_,_,rfl,⟨cs++ds,?_,HX2.out⟩,B2.out⟩;rw [HLL.out];exact Ap.RdO.imp R.out fun _ _ _=>.inl trivial
theorem par1_in {x t:Pr} (h:x.p.a.length+t.p.a.length≤9∧x.q.a.length+t.q.a.length≤9):(pr x.p t.p).length≤1000000000000∧(pr x.q t.q).length≤1000000000000:=by
  have k:∀ i j,i+j≤9→bin i j≤1000000000000:=fun i j h=>by
    have h1:=y0c i j;have h2:=z7g i;have h3:=z7g j
    have h4:fac (i+j)≤fac 9:=by
      obtain ⟨d,hd⟩:=Nat.exists_eq_add_of_le h;rw [hd];exact fac_l _ _
    have h5:bin i j≤fac i*fac j*bin i j:=Nat.le_mul_of_pos_left _ (Nat.mul_pos h2 h3);have h6:fac 9≤1000000000000:=by decide
    omega
  exact ⟨Nat.le_trans (y5f _ _) (k _ _ h.1),Nat.le_trans (y5f _ _) (k _ _ h.2)⟩
theorem y3a (T:TCon) (k:Int) (hk:k=5∨k=6∨k=7) (x y:Value) (X Y:List Pr) (w:World) (hx:PsO any w x X) (hy:PsO any w y Y) (hXY:X.length+Y.length≤1000000000000) (hrow:∀ x∈X,∀ t∈Y,x.p.a.length+t.p.a.length≤9∧x.q.a.length+t.q.a.length≤9)
    (hout:(twoP k X Y).length≤1000000000000):Calls Tryz.prog 112 #[.int .i64 k,x,y] w (OutP any (twoP k X Y) w):=by
  rcases hk with rfl | rfl | rfl
  · exact y7v T x y X Y w hx hy (by omega) (by omega) (fun x hx t ht=>by have:=hrow x hx t ht; omega) hout
  · exact y7u x y X Y w hx hy hXY
  · exact y7t T x y X Y w hx hy (by omega) (by omega) hrow hout (fun x hx t ht=>par1_in (hrow x hx t ht))
end Mn
end Go.Proofs.YtaapnkoooofalaaGreat
namespace Go.Proofs.YtaapnkoooofalaaGreat.Mn
open Go Go.RowKit Tr
open Rw (Nd Nds)
set_option maxRecDepth 20000
theorem wp_append_run {P:Program} {w:World} {o:Oper} {a:Act} {K:Act→World→Prop} {Q:Exit→Act→World→Prop} (s x:Operand) (t tx:TypeId)
    (ho:o.op=.call { callee:=.builtin .append,args:=#[s,x],argTypes:=#[t,tx] }) (vs vx:Value) (hs:a.eval s=vs) (hx:a.eval x=vx) (v':Value) (w':World) (hrun:(Builtin.append_ #[t,tx] o.type #[vs,vx]).run P w=.ok v' w')
    (h:K (a.put o.dst v') w'):Oper.wp P o a w K Q:=by
  unfold Oper.wp;simp [execOp,ho,resolve,invoke,builtin,hs,hx,hrun,Result.andThen];exact h
section
variable (W0:World) (kv p0 p1 y0 y1:Value) (A1 A2:List Tr) (M MW:List Pr)
def R10 (f:Nat→Bool) (k:Nat) (v:Value) (w:World):Prop:=
  match k with
  | 0=>v=kv
  | 1=>v=p0
  | 2=>v=y0
  | 3=>f 8=false→TsO any w v A1∧∃ a c,v=.slice a A1.length c
  | 4=>v=kv
  | 5=>v=p1
  | 6=>v=y1
  | 7=>f 8=false→TsO any w v A2∧∃ a c,v=.slice a A2.length c
  | 8=>f 11=false→∃ a c cs,v=.slice a M.length c∧w.ownsRow W0.heap.size 97 4 (.slice a M.length c) M.length cs∧Cl (EP (Apart any (.slice a M.length c)) w) 4 M cs
  | 9=>v=.agg #[.slice none 0 0,.int .i64 3,.slice none 0 0,.int .i64 1]
  | 10=>f 11=false→∃ S,v=.slice (some ⟨S,0,none⟩) 1 1∧w.heap[S]?=some (.cells #[.slice none 0 0,.int .i64 3,.slice none 0 0,.int .i64 1] 97)
  | 11=>f 12=false→PsO any w v MW∧∃ a c,v=.slice a MW.length c
  | 12=>PsO any w v (pnorm MW)∧∃ a c,v=.slice a (pnorm MW).length c
  | 13=>PsO any w v (pnorm MW)∧∃ a c,v=.slice a (pnorm MW).length c
  | _=>True
structure G10 (f:Nat→Bool) (us:Nat→Value) (w:World):Prop where
  bel:Below W0.heap.size W0 w
  all:∀ k,f k=true→R10 W0 kv p0 p1 y0 y1 A1 A2 M MW f k (us k) w
  late:(f 12=true→f 11=true)∧(f 13=true→f 11=true)
variable {W0 kv p0 p1 y0 y1 A1 A2 M MW}
theorem R10.keep {f f':Nat→Bool} {k:Nat} {v:Value} {w w':World} (h:R10 W0 kv p0 p1 y0 y1 A1 A2 M MW f k v w) (hf:∀ j,f j=true→f' j=true) (hb:Below w.heap.size w w'):R10 W0 kv p0 p1 y0 y1 A1 A2 M MW f' k v w':=by
  have hn:∀ j,f' j=false→f j=false:=fun j h=>by
    cases hj:f j
    · rfl
    · rw [hf j hj] at h; cases h
  unfold R10 at h ⊢
  split
  all_goals simp only at h
  case h_1=>exact h
  case h_2=>exact h
  case h_3=>exact h
  case h_4=>exact fun hd=>⟨(h (hn _ hd)).1.below hb,(h (hn _ hd)).2⟩
  case h_5=>exact h
  case h_6=>exact h
  case h_7=>exact h
  case h_8=>exact fun hd=>⟨(h (hn _ hd)).1.below hb,(h (hn _ hd)).2⟩
  case h_9=>
    intro hd;obtain ⟨a,c,cs,h1,h2,h3⟩:=h (hn _ hd);exact ⟨a,c,cs,h1,Ap.own_below h2 hb,h3.imp (EP.map fun _ _ h=>z0e h hb)⟩
  case h_10=>exact h
  case h_11=>
    intro hd;obtain ⟨S,h1,h2⟩:=h (hn _ hd);exact ⟨S,h1,by rw [hb.block S (z5t h2)]; exact h2⟩
  case h_12=>exact fun hd=>⟨(h (hn _ hd)).1.below hb,(h (hn _ hd)).2⟩
  case h_13=>exact ⟨h.1.below hb,h.2⟩
  case h_14=>exact ⟨h.1.below hb,h.2⟩
  case h_15=>trivial
theorem G10.put {f:Nat→Bool} {us:Nat→Value} {w w':World} {i:Nat} {v:Value} (g:G10 W0 kv p0 p1 y0 y1 A1 A2 M MW f us w) (hb:Below w.heap.size w w') (hi:i≠11) (hl:i=12∨i=13→f 11=true) (hv:R10 W0 kv p0 p1 y0 y1 A1 A2 M MW (Rg.upd f i true) i v w'):G10 W0 kv p0 p1 y0 y1 A1 A2 M MW (Rg.upd f i true) (Rg.upd us i v) w':=by
  have hf:∀ j,f j=true→Rg.upd f i true j=true:=fun j h=>by
    unfold Rg.upd
    split
    · rfl
    · exact h
  refine ⟨g.bel.trans (hb.mono g.bel.size),fun k hk=>?_,fun h=>?_,fun h=>?_⟩
  · by_cases hki:k=i
    · subst hki;rw [Rg.upd_same];exact hv
    · rw [Rg.upd_ne _ _ hki] at hk ⊢;exact (g.all k hk).keep hf hb
  · refine hf _ ?_
    by_cases h12:12=i
    · exact hl (.inl h12.symm)
    · rw [Rg.upd_ne _ _ h12] at h; exact g.late.1 h
  · refine hf _ ?_
    by_cases h13:13=i
    · exact hl (.inr h13.symm)
    · rw [Rg.upd_ne _ _ h13] at h; exact g.late.2 h
theorem G10.put11 {f:Nat→Bool} {us:Nat→Value} {w w':World} {v:Value} (g:G10 W0 kv p0 p1 y0 y1 A1 A2 M MW f us w) (hb:Below W0.heap.size W0 w') (h11:f 11=false) (h8:f 8=true) (hv:PsO any w' v MW∧∃ a c,v=.slice a MW.length c):G10 W0 kv p0 p1 y0 y1 A1 A2 M MW (Rg.upd f 11 true) (Rg.upd us 11 v) w':=by
  have hl:=g.late;rw [h11] at hl
  have h12:f 12=false:=Bool.eq_false_iff.mpr fun h=>absurd (hl.1 h) (by simp)
  have h13:f 13=false:=Bool.eq_false_iff.mpr fun h=>absurd (hl.2 h) (by simp)
  have u8:Rg.upd f 11 true 8=true:=by rw [Rg.upd_ne _ _ (by decide)]; exact h8
  have u11:Rg.upd f 11 true 11=true:=Rg.upd_same _ _ _;refine ⟨hb,fun k hk=>?_,fun _=>u11,fun _=>u11⟩
  by_cases hki:k=11
  · subst hki;rw [Rg.upd_same];exact fun _=>hv
  · rw [Rg.upd_ne _ _ hki] at hk ⊢;have h:=g.all k hk;unfold R10 at h ⊢
    split
    all_goals simp only at h
    case h_4=>exact fun hd=>by rw [u8] at hd; cases hd
    case h_8=>exact fun hd=>by rw [u8] at hd; cases hd
    case h_9=>exact fun hd=>by rw [u11] at hd; cases hd
    case h_11=>exact fun hd=>by rw [u11] at hd; cases hd
    case h_12=>exact absurd rfl hki
    case h_13=>rw [h12] at hk; cases hk
    case h_14=>rw [h13] at hk; cases hk
    case h_15=>trivial
    all_goals exact h
end
end Go.Proofs.YtaapnkoooofalaaGreat.Mn
namespace Go.Proofs.YtaapnkoooofalaaGreat
namespace Mn
open Go Go.RowKit Tr
open Rw (Nd Nds)
def BoxN (w:World) (b:Nat) (x:Nd):Prop:=w.cell? ⟨b,0,none⟩=some (.int .i64 x.k)∧w.cell? ⟨b,1,none⟩=some (.string x.n)∧w.cell? ⟨b,2,none⟩=some (.int .i64 x.s)
theorem x6n {base B:Nat} {w w':World} {size n:Nat} {v:Value} {cs:List Value} (h:Ap.RdO (fun g=>base≤g) w size v n cs) (hg:w.grownBy w' (some B)) (hB:B<base):Ap.Rd w' size v n cs:=by
  obtain ⟨hl,a,cap,hv,hc,hn,hcell⟩:=h;refine ⟨hl,a,cap,hv,hc,hn,fun h0=>?_⟩;obtain ⟨b,off,ha,hne,hlt,hj⟩:=hcell h0;refine ⟨b,off,ha,fun i u hu=>?_⟩;rw [World.cell?_of_block (w:=w) (a:=⟨b,off+i,none⟩) (hg.block b hlt fun e=>by cases e; omega)];exact hj i u hu
theorem x6e {base B:Nat} {out:Option Nat} {w w':World} (hg:w.grownBy w' (some B)) (hB:B<base):∀ {cs:List Value} {ls:List (List Nd)},Rw.OwnC base out w cs ls→Rw.RwC w' cs ls
  | [],[],_=>trivial
  | _::_,_::_,h=>⟨x6n (Ap.RdO.imp h.1.1 fun _ _ h=>h.1) hg hB,x6e hg hB h.2⟩
  | [],_::_,h=>h.elim
  | _::_,[],h=>h.elim
theorem y3u (w:World) (g:Nat) (a b c:Value):w.grownBy (((w.setCell ⟨g,0,none⟩ a).setCell ⟨g,1,none⟩ b).setCell ⟨g,2,none⟩ c) (some g):=
  z0c (z0c (z0n _ _ _ _) (z0n _ _ _ _)) (z0n _ _ _ _)
theorem y1t {B g:Nat} {w0 w:World} (h:Below B w0 w) (hg:B≤g) (a b c:Value):Below B w0 (((w.setCell ⟨g,0,none⟩ a).setCell ⟨g,1,none⟩ b).setCell ⟨g,2,none⟩ c):=((h.setCell hg _).setCell hg _).setCell hg _
theorem x1v {w:World} {B:Nat} {u0 u1 u2:Value} {k z:Int} {nm:ByteArray} (h0:w.cell? ⟨B,0,none⟩=some u0) (h1:w.cell? ⟨B,1,none⟩=some u1) (h2:w.cell? ⟨B,2,none⟩=some u2) :
    BoxN (((w.setCell ⟨B,0,none⟩ (.int .i64 k)).setCell ⟨B,1,none⟩ (.string nm)).setCell ⟨B,2,none⟩ (.int .i64 z)) B ⟨k,nm,z⟩:=by
  refine ⟨?_,?_,?_⟩ <;> simp [go_sem,h0,h1,h2]
theorem stepT_1 {t:List Nd→List Tr} {p:List Nd→List Pr} {l:List Nd} (h:So.hd l=1):stepT t p l=[⟨[nm l],1⟩]:=by unfold stepT; rw [h]; rfl
theorem stepT_2l {t:List Nd→List Tr} {p:List Nd→List Pr} {l:List Nd} (h:So.hd l=2):stepT t p l=[tick]:=by unfold stepT; rw [h]; rfl
theorem stepT_3 {t:List Nd→List Tr} {p:List Nd→List Pr} {l:List Nd} (h:So.hd l=3):stepT t p l=[bang]:=by unfold stepT; rw [h]; rfl
theorem stepT_4 {t:List Nd→List Tr} {p:List Nd→List Pr} {l:List Nd} (h:So.hd l=4):stepT t p l=[tick,⟨[],3⟩]:=by unfold stepT; rw [h]; rfl
theorem stepT_11 {t:List Nd→List Tr} {p:List Nd→List Pr} {l:List Nd} (h:So.hd l=11):stepT t p l=[⟨[],sg l⟩]:=by unfold stepT; rw [h]; rfl
theorem x5r (w:World) (x:ByteArray) (ty:TypeId):Strs (w.alloc (.cells #[.string x] ty)) (.slice (some ⟨w.heap.size,0,none⟩) 1 1) [x]:=
  ⟨rfl,_,1,rfl,Nat.le_refl _,fun h=>(by cases h),fun _=>⟨w.heap.size,0,rfl,fun j u hu=>by
    match j,hu with
    | 0,hu=>simp at hu; subst hu; simp
    | j+1,hu=>simp at hu⟩⟩
theorem ts_two {ok:Nat→Prop} {w:World} {B:Nat} {a b:Value} {t u:Tr} (h0:w.cell? ⟨B,0,none⟩=some a) (h1:w.cell? ⟨B,1,none⟩=some (.int .i64 t.e)) (h2:w.cell? ⟨B,2,none⟩=some b) (h3:w.cell? ⟨B,3,none⟩=some (.int .i64 u.e)) (hB:ok B) (hs:StrsO ok w a t.a) (hs':StrsO ok w b u.a):TsO ok w (.slice (some ⟨B,0,none⟩) 2 2) [t,u]:=by
  refine ⟨[a,.int .i64 t.e,b,.int .i64 u.e],⟨rfl,_,2,rfl,Nat.le_refl _,fun h=>(by cases h),fun _=>⟨B,0,rfl,hB,Ap.z0a h0,fun j u hu=>?_⟩⟩,⟨⟨a,rfl,hs⟩,Cl.one ⟨b,rfl,hs'⟩ rfl⟩⟩
  match j,hu with
  | 0,hu=>simp at hu; subst hu; exact h0
  | 1,hu=>simp at hu; subst hu; exact h1
  | 2,hu=>simp at hu; subst hu; exact h2
  | 3,hu=>simp at hu; subst hu; exact h3
  | j+4,hu=>simp at hu
theorem rwc_at {w:World}:∀ {cs:List Value} {ls:List (List Nd)},Rw.RwC w cs ls→∀ i (h:i<ls.length),∃ a,cs[i]?=some a∧Nds w a ls[i]
  | [],[],_,i,h=>by simp at h
  | a::_,_::_,hr,0,_=>⟨a,rfl,hr.1⟩
  | _::cs,_::ls,hr,i+1,h=>by
    obtain ⟨a,h1,h2⟩:=rwc_at hr.2 i (by simpa using h);exact ⟨a,by simpa using h1,by simpa using h2⟩
  | [],_::_,h,_,_=>h.elim
  | _::_,[],h,_,_=>h.elim
def AtR (w:World) (b off:Nat) (ls:List (List Nd)):Prop:=∀ i,(h:i<ls.length)→∃ a,w.cell? ⟨b,off+i,none⟩=some a∧Nds w a ls[i]
theorem rws_form {w:World} {v:Value} {ls:List (List Nd)} (h:Rw.Rws w v ls) :
    (ls=[]∧∃ a cap,v=.slice a 0 cap)∨∃ b off cap,v=.slice (some ⟨b,off,none⟩) ls.length cap∧AtR w b off ls:=by
  obtain ⟨cs,⟨_,a,cap,rfl,hle,_,hcell⟩,hr⟩:=h
  by_cases h0:0<ls.length
  · obtain ⟨b,off,rfl,hj⟩:=hcell h0;refine Or.inr ⟨b,off,cap,rfl,fun i hi=>?_⟩;obtain ⟨a,h1,h2⟩:=rwc_at hr i hi;exact ⟨a,hj _ _ h1,h2⟩
  · have:ls=[]:=List.eq_nil_of_length_eq_zero (by omega);subst this;exact Or.inl ⟨rfl,a,cap,rfl⟩
abbrev TsoP (w:World) (v:Value) (X:List Pr):Prop:=PsO any w v X
def PC (l:List Nd):Prop:=∀ (v:Value) (w:World),Nds w v l→Calls Tryz.prog 42 #[v] w (OutT any (Mt l) w)
def QC (l:List Nd):Prop:=∀ (v:Value) (w:World),Nds w v l→Calls Tryz.prog 73 #[v] w (OutP any (Mp l) w)
theorem x2y (T:TCon) (k:Int) (nm':ByteArray) (sg':Int) (rest:List Nd) (v:Value) (w:World) (hv:Nds w v ((⟨k,nm',sg'⟩:Nd)::rest)) (ht:So.Tre ((⟨k,nm',sg'⟩:Nd)::rest)) (hi:So.Is 3 ((⟨k,nm',sg'⟩:Nd)::rest)=true)
    (h24:((⟨k,nm',sg'⟩:Nd)::rest).length≤24) (h6:acs ((⟨k,nm',sg'⟩:Nd)::rest)≤6) (ihT:∀ a∈Rw.kids ((⟨k,nm',sg'⟩:Nd)::rest),So.Is 3 a=true→PC a) (ihP:∀ a∈Rw.kids ((⟨k,nm',sg'⟩:Nd)::rest),So.Is 4 a=true→QC a) :
    Calls Tryz.prog 42 #[v] w (OutT any (Mt ((⟨k,nm',sg'⟩:Nd)::rest)) w):=by
  have HK:=Lib.hid (fun w1 (hb:Below w.heap.size w w1)=>Rx.z9r v ((⟨k,nm',sg'⟩:Nd)::rest) w1 (hv.below hb) (by simp at h24 ⊢; omega))
  rcases Rw.Nds.form hv with ⟨h0,_⟩ | ⟨b,o,c,rfl,hc,hat⟩
  · cases h0
  obtain ⟨e0,e1,e2⟩:=hat 0 (by simp);simp only [List.getElem_cons_zero,Nat.zero_mul,Nat.add_zero] at e0 e1 e2;obtain ⟨n,hn⟩:∃ n,((⟨k,nm',sg'⟩:Nd)::rest).length=n+1:=⟨rest.length,by simp⟩
  rw [hn] at HK hc ⊢;have hbl:b<w.heap.size:=Ap.z0a e0;obtain ⟨ks,hks⟩:∃ ks,Rw.kids ((⟨k,nm',sg'⟩:Nd)::rest)=ks:=⟨_,rfl⟩
  rw [hks] at HK;have HKS:=Lib.hid hks;have HN:=Lib.hid hn;have IT:=Lib.hid ihT;have IP:=Lib.hid ihP;have hn24:n≤23:=by omega
  have HT:=Lib.hid ht;have HI:=Lib.hid hi;have H24:=Lib.hid h24;have H6:=Lib.hid h6;obtain ⟨L,hL⟩:∃ L,Mt ((⟨k,nm',sg'⟩:Nd)::rest)=L:=⟨_,rfl⟩
  rw [hL];have HL:=Lib.hid hL;clear hv hat hn hks ihT ihP ht hi h24 h6 hL
  go_enter Tryz.func42,Tryz.ntmps42
  go_upto_region 1 with fail
  go_cut [3,4] (fun s3 s4 wx=>∃ (B:Nat),s3=.pointer (some ⟨B,0,none⟩)∧w.heap.size≤B∧BoxN wx B ⟨k,nm',sg'⟩∧Rw.Rws wx s4 ks∧Below w.heap.size w wx)
  case first=>
    clear HKS HN IT IP HT HI H24 H6 HL hn24 T
    go_region_with (first
      | (go_at_call 50
         (with_reducible refine (HK.out _ (Below.refl _ _).drew).mono ?_)
         rintro e w1 ⟨y,cs,rfl,hy,hown,hb1⟩;have B1:=Lib.hid ((Below.refl _ _).drew.trans hb1);have K1:Hid (Rw.Rws w1 y ks):=Lib.hid ⟨cs,Ap.RdO.rd hy,Rw.OwnC.rwc hown⟩;have c0:w1.cell? ⟨b,o,none⟩=some (.int .i64 k):=by rw [B1.out.cell (p:=⟨b,o,none⟩) hbl]; exact e0
         have c1:w1.cell? ⟨b,o+1,none⟩=some (.string nm'):=by rw [B1.out.cell (p:=⟨b,o+1,none⟩) hbl]; exact e1
         have c2:w1.cell? ⟨b,o+2,none⟩=some (.int .i64 sg'):=by rw [B1.out.cell (p:=⟨b,o+2,none⟩) hbl]; exact e2
         have hbl1:b<w1.heap.size:=Ap.z0a c0;clear hy hown hb1)
      | (go_at_call 50
         (refine (HK.out _ ((Below.refl _ _).alloc (Nat.le_refl _) _).drew).mono ?_)
         rintro e w1 ⟨y,cs,rfl,hy,hown,hb1⟩;have B1:=Lib.hid (((Below.refl _ _).alloc (Nat.le_refl _) _).drew.trans (hb1.mono (by simp)));have K1:Hid (Rw.Rws w1 y ks):=Lib.hid ⟨cs,Ap.RdO.rd hy,Rw.OwnC.rwc hown⟩;have KB:Hid (∀ a b c:Value,Rw.Rws (((w1.setCell ⟨w.heap.size,0,none⟩ a).setCell ⟨w.heap.size,1,none⟩ b).setCell ⟨w.heap.size,2,none⟩ c) y ks):=Lib.hid fun a b c=>⟨cs,x6n hy (y3u _ _ _ _ _) (by simp),x6e (y3u _ _ _ _ _) (by simp) hown⟩
         have k0:w1.cell? ⟨w.heap.size,0,none⟩=some (.int .i64 0):=by rw [hb1.cell (p:=⟨w.heap.size,0,none⟩) (by simp)]; simp [go_sem]
         have k1:w1.cell? ⟨w.heap.size,1,none⟩=some (.string ⟨#[]⟩):=by rw [hb1.cell (p:=⟨w.heap.size,1,none⟩) (by simp)]; simp [go_sem]
         have k2:w1.cell? ⟨w.heap.size,2,none⟩=some (.int .i64 0):=by rw [hb1.cell (p:=⟨w.heap.size,2,none⟩) (by simp)]; simp [go_sem]
         have f0:w1.frozen? ⟨w.heap.size,0,none⟩=false:=by rw [hb1.frozen (p:=⟨w.heap.size,0,none⟩) (by simp)]; simp [go_sem]
         have f1:w1.frozen? ⟨w.heap.size,1,none⟩=false:=by rw [hb1.frozen (p:=⟨w.heap.size,1,none⟩) (by simp)]; simp [go_sem]
         have f2:w1.frozen? ⟨w.heap.size,2,none⟩=false:=by rw [hb1.frozen (p:=⟨w.heap.size,2,none⟩) (by simp)]; simp [go_sem]
         have c0:w1.cell? ⟨b,o,none⟩=some (.int .i64 k):=by rw [B1.out.cell (p:=⟨b,o,none⟩) hbl]; exact e0
         have c1:w1.cell? ⟨b,o+1,none⟩=some (.string nm'):=by rw [B1.out.cell (p:=⟨b,o+1,none⟩) hbl]; exact e1
         have c2:w1.cell? ⟨b,o+2,none⟩=some (.int .i64 sg'):=by rw [B1.out.cell (p:=⟨b,o+2,none⟩) hbl]; exact e2
         have hbl1:b<w1.heap.size:=Ap.z0a c0;clear hy hown hb1)
      | fail)
    all_goals go_wp2_with fail
    all_goals go_meet
    all_goals first
      | exact ⟨_,rfl,B1.out.size,⟨by simp,by simp,by simp⟩,K1.out.below (bel1 _ _),B1.out.alloc B1.out.size _⟩
      | exact ⟨_,rfl,Nat.le_refl _,x1v k0 k1 k2,KB.out _ _ _,y1t B1.out (Nat.le_refl _) _ _ _⟩
  case rest=>
    obtain ⟨B,rfl,hB,hbx,hks,hbel⟩:=hcut;have BB:=Lib.hid hbel;have KS:=Lib.hid hks;have hBl:B<wc.heap.size:=Ap.z0a hbx.1;obtain ⟨x0,x1,x2⟩:=hbx;clear hbel HK e0 e1 e2;obtain ⟨eT,_⟩:=M_eq HT.out.pos;have ET:=Lib.hid eT;clear eT;have hsh:=x5z HT.out HI.out;have hhd:So.hd ((⟨k,nm',sg'⟩:Nd)::rest)=k:=rfl;rw [hhd] at hsh;clear hhd
    rcases hsh with ⟨_,hk | hk | hk | hk | hk⟩ | ⟨hk,hi4⟩ | ⟨hk,hi0,hi1,hi8⟩
    · subst hk;have HLL:Hid (L=[⟨[nm'],1⟩]):=Lib.hid (HL.out.symm.trans (ET.out.trans (stepT_1 rfl)));have SN:=Lib.hid (fun ty=>x5r wc nm' ty);go_wp2_with fail;refine (z2u any _ ⟨[nm'],1⟩ _ (so_of (SN.out _))).mono ?_;intro e w2 ho;have HO:=Lib.hid (ho.up (BB.out.alloc BB.out.size _) fun b h=>.inl h);obtain ⟨a4,k4,rfl,_,_⟩:=ho;go_wp2_with fail;go_ret;rw [HLL.out];exact HO.out
    · subst hk;have HLL:Hid (L=[tick]):=Lib.hid (HL.out.symm.trans (ET.out.trans (stepT_2l rfl)));go_wp2_with fail;refine (z2b 1 _).mono ?_;rintro e w1 ⟨rfl,hb1⟩;have B1:=Lib.hid (BB.out.trans (hb1.mono BB.out.size));clear hb1;go_wp2_with fail;refine (z2u none' _ tick _ (z4n _ _)).mono ?_;intro e w2 ho;have HO:=Lib.hid (ho.up (ok:=any) B1.out fun b h=>h.elim);obtain ⟨a4,k4,rfl,_,_⟩:=ho;go_wp2_with fail;go_ret;rw [HLL.out];exact HO.out
    · subst hk;have HLL:Hid (L=[bang]):=Lib.hid (HL.out.symm.trans (ET.out.trans (stepT_3 rfl)));go_wp2_with fail;refine (z2b 2 _).mono ?_;rintro e w1 ⟨rfl,hb1⟩;have B1:=Lib.hid (BB.out.trans (hb1.mono BB.out.size));clear hb1;go_wp2_with fail;refine (z2u none' _ bang _ (z4n _ _)).mono ?_;intro e w2 ho;have HO:=Lib.hid (ho.up (ok:=any) B1.out fun b h=>h.elim);obtain ⟨a4,k4,rfl,_,_⟩:=ho;go_wp2_with fail;go_ret;rw [HLL.out];exact HO.out
    · subst hk;have HLL:Hid (L=[tick,⟨[],3⟩]):=Lib.hid (HL.out.symm.trans (ET.out.trans (stepT_4 rfl)));go_wp2_with fail;refine (z2b 1 _).mono ?_;rintro e w1 ⟨rfl,hb1⟩;have B1:=Lib.hid (BB.out.trans (hb1.mono BB.out.size));clear hb1;go_wp2_with fail;refine (z2b 3 _).mono ?_;rintro e w2 ⟨rfl,hb2⟩;have B2:=Lib.hid (B1.out.trans (hb2.mono B1.out.size));clear hb2;go_wp2_with fail;go_ret;rw [HLL.out];exact ⟨_,_,rfl,ts_two (by simp [go_sem]) (by simp [go_sem]; rfl) (by simp [go_sem]) (by simp [go_sem]) (.inl trivial) (z4n _ _) (z4n _ _),B2.out.alloc B2.out.size _⟩
    · subst hk;have HLL:Hid (L=[(⟨[],sg'⟩:Tr)]):=Lib.hid (HL.out.symm.trans (ET.out.trans (stepT_11 rfl)));go_wp2_with fail;refine (z2b sg' _).mono ?_;rintro e w1 ⟨rfl,hb1⟩;have B1:=Lib.hid (BB.out.trans (hb1.mono BB.out.size));clear hb1;go_wp2_with fail;refine (z2u none' _ (⟨[],sg'⟩:Tr) _ (z4n _ _)).mono ?_;intro e w2 ho;have HO:=Lib.hid (ho.up (ok:=any) B1.out fun b h=>h.elim);obtain ⟨a4,k4,rfl,_,_⟩:=ho;go_wp2_with fail;go_ret;rw [HLL.out];exact HO.out
    · obtain ⟨a,hka,ek0,hta,hla,hca,hra⟩:=cut1 HT.out (by show Rw.ar k=1; rw [hk]; rfl);subst hk;rw [ek0] at hi4;have HLL:Hid (L=norm (blk (Mp a))):=Lib.hid (HL.out.symm.trans (ET.out.trans ((y2b rfl).trans (by rw [ek0]))));have hks':=HKS.out.symm.trans hka;rw [hks'] at KS;have QA:=Lib.hid (IP.out a (by rw [hka]; simp) hi4);have GA:=Lib.hid (gp hta hi4);have HLA:=Lib.hid hla;have HCA:=Lib.hid (hca all)
      rcases rws_form KS.out with ⟨h0,_⟩ | ⟨b2,o2,c2,rfl,hat⟩
      · cases h0
      obtain ⟨y0,q0,n0⟩:=hat 0 (by simp);simp only [List.getElem_cons_zero,Nat.add_zero] at q0 n0;have hb2l:b2<wc.heap.size:=Ap.z0a q0;have N0:=Lib.hid n0;clear hat hks' hka ek0 hta hla hca hra hi4 n0 hks KS HKS;have ha24:a.length≤23:=by have:=HLA.out; have:=H24.out; omega
      have ha6:acs a≤6:=by have:=HCA.out; have:=H6.out; unfold acs at *; omega
      have LA:Hid ((Mp a).length≤1000000000000):=Lib.hid (Nat.le_trans GA.out.len (Nat.le_trans (z1n (by omega) ha6) (by omega)));have LB:Hid ((blk (Mp a)).length≤1000000000000):=Lib.hid (Nat.le_trans (v0z GA.out.len) (Nat.le_trans (z1n (by omega) ha6) (by omega)));have LR:Hid (∀ x∈Mp a,x.p.a.length+x.q.a.length≤6):=Lib.hid fun x hx=>Nat.le_trans ((GA.out.cnt all).len hx) ha6
      have LS:Hid (∀ t∈blk (Mp a),t.a.length≤1000000):=Lib.hid fun t ht=>by have:=(blk_ct (GA.out.cnt all)).len ht; unfold acs at ha6; omega
      clear ha24 ha6;have eg:∀ args w,(callFunc 74 args).run Tryz.prog w=.ok (.enter 74 args) w:=enters_of Tryz.func74 (by kernel_rfl) rfl;have EG:=Lib.hid eg;clear eg;obtain ⟨X,hX⟩:∃ X,Mp a=X:=⟨_,rfl⟩
      have QA':=Lib.hid (QA.out y0 wc N0.out);rw [hX] at HLL LA LB LR LS QA';clear hX;obtain ⟨M,hM⟩:∃ M,blk X=M:=⟨_,rfl⟩
      have EB:Hid (∀ y w1,TsoP w1 y X→Calls Tryz.prog 72 #[y,.func (.func 74) #[] #[]] w1 (OutT any M w1)):=Lib.hid fun y w1 hy=>by
        rw [← hM];exact eachPT 74 #[] EG.out any y X blk1 w1 hy (fun wr hb t ht v1 v2 h1 h2=>y9l T _ v1 v2 t wr h1 h2 (by have:=LR.out t ht; omega)) LA.out LB.out
      rw [hM] at HLL LB LS;clear hM;go_wp2_with fail;refine QA'.out.mono ?_;rintro e w1 ⟨a1,n1,rfl,ht1,hb1⟩;have B1:=Lib.hid (BB.out.trans (hb1.mono BB.out.size));have TX:Hid (TsoP w1 (.slice a1 X.length n1) X):=Lib.hid (ht1.imp fun _ _ _=>trivial);clear ht1 hb1;go_wp2_with fail;refine (EB.out _ _ TX.out).mono ?_;rintro e w2 ⟨a2,n2,rfl,ht2,hb2⟩;have B2:=Lib.hid (B1.out.trans (hb2.mono B1.out.size));have CS:=Lib.hid (T.cSet _ M w2 ht2.trs LB.out LS.out);clear ht2 hb2;go_wp2_with fail;refine CS.out.mono ?_;rintro e w3 ⟨v3,rfl,ht3,hb3⟩;have B3:=Lib.hid (B2.out.trans (hb3.mono B2.out.size));have T3:=Lib.hid ht3;rw [← HLL.out] at T3;obtain ⟨_,⟨_,a3,n3,rfl,_⟩,_⟩:=ht3;clear hb3;go_wp2_with fail;go_ret;rw [← HLL.out] at *;exact ⟨_,_,rfl,(TsO.of T3.out).imp fun _ _ _=>.inl trivial,B3.out⟩
    · obtain ⟨a,a',hka,ek0,ek1,hta,htb,hla,hca,hra⟩:=cut2 HT.out (by show Rw.ar k=2; rcases hk with hk | hk | hk | hk <;> rw [hk] <;> rfl);rw [ek0] at hi0;rw [ek1] at hi1 hi8;have HLL:Hid (L=norm (two k (Mt a) (Mt a'))):=Lib.hid (HL.out.symm.trans (ET.out.trans ((z5o (l:=(⟨k,nm',sg'⟩:Nd)::rest) hk).trans (by rw [ek0,ek1]; rfl))));have hks':=HKS.out.symm.trans hka;rw [hks'] at KS;have QA:=Lib.hid (IT.out a (by rw [hka]; simp) hi0);have QB:=Lib.hid (IT.out a' (by rw [hka]; simp) hi1);have GA:=Lib.hid (gt hta hi0);have GB:=Lib.hid (gt htb hi1);have HLA:=Lib.hid hla;have HCA:=Lib.hid (hca all);have hb6:acs a+acs a'≤6:=by have:=HCA.out; have:=H6.out; unfold acs at *; omega
      have HBne:Hid (k=8→Mt a'≠[]):=Lib.hid fun h8=>by
        obtain ⟨t,ht,_⟩:=live1 htb (by omega) (hi8 h8);intro h0;rw [h0] at ht
        cases ht
      rcases rws_form KS.out with ⟨h0,_⟩ | ⟨b2,o2,c2,rfl,hat⟩
      · cases h0
      obtain ⟨y0,q0,n0⟩:=hat 0 (by simp);obtain ⟨y1,q1,n1⟩:=hat 1 (by simp);simp only [List.getElem_cons_zero,List.getElem_cons_succ,Nat.add_zero] at q0 n0 q1 n1;have hb2l:b2<wc.heap.size:=Ap.z0a q0;have N0:=Lib.hid n0;have N1:=Lib.hid n1;have ha24:a.length+a'.length≤23:=by have:=HLA.out; have:=H24.out; omega
      have LA:Hid ((Mt a).length+(Mt a').length≤1000000000000):=Lib.hid (by
        have h1:=Nat.le_trans GA.out.len (z1n (by omega) (by omega));have h2:=Nat.le_trans GB.out.len (z1n (by omega) (by omega));omega)
      have LB:Hid ((two k (Mt a) (Mt a')).length≤1000000000000):=Lib.hid (Nat.le_trans (x5j (GA.out.cnt all) (GB.out.cnt all) GA.out.len GB.out.len) (Nat.le_trans (z1n (by omega) hb6) (by omega)))
      have LR:Hid (∀ t∈Mt a,∀ u∈Mt a',t.a.length+u.a.length≤9):=Lib.hid fun t ht u hu=>by
        have h1:=(GA.out.cnt all).len ht;have h2:=(GB.out.cnt all).len hu;unfold acs at hb6;omega
      have LT':Hid (∀ t∈Mt a++Mt a',t.a.length≤1000000):=Lib.hid fun t ht=>by
        unfold acs at hb6
        rcases List.mem_append.1 ht with ht | ht
        · have h1:=(GA.out.cnt all).len ht; omega
        · have h1:=(GB.out.cnt all).len ht; omega
      have LU:Hid (∀ t∈pot k (Mt a) (Mt a'),t.a.length≤1000000):=Lib.hid fun t ht=>by
        have h1:t∈two k (Mt a) (Mt a'):=(z0s t _).1 (by rw [← x0h hk _ _ HBne.out]; exact (z0s t _).2 ht);have h2:=(two_ct (GA.out.cnt all) (GB.out.cnt all)).len h1;unfold acs at hb6;omega
      have LV:Hid ((pot k (Mt a) (Mt a')).length≤1000000000000):=Lib.hid (Nat.le_trans (x6w hk _ _ HBne.out) LB.out);rw [← x0h hk _ _ HBne.out] at HLL;have PT':Hid (∀ y y' w1,TsO any w1 y (Mt a)→TsO any w1 y' (Mt a')→Calls Tryz.prog 75 #[.int .i64 k,y,y'] w1 (OutT any (pot k (Mt a) (Mt a')) w1)):=Lib.hid fun y y' w1 h1 h2=>y5g T k hk y y' _ _ w1 h1 h2 LA.out LR.out LT'.out HBne.out LB.out
      have QA':=Lib.hid (fun w1 (hb:Below wc.heap.size wc w1)=>QA.out y0 w1 (N0.out.below hb));have QB':=Lib.hid (fun w1 (hb:Below wc.heap.size wc w1)=>QB.out y1 w1 (N1.out.below hb));generalize pot k (Mt a) (Mt a')=M at HLL LU LV PT';generalize Mt a=A1 at QA' PT';generalize Mt a'=A2 at QB' PT';have g1:(k==1)=false:=by rcases hk with rfl | rfl | rfl | rfl <;> rfl
      have g2:(k==2)=false:=by rcases hk with rfl | rfl | rfl | rfl <;> rfl
      have g3:(k==3)=false:=by rcases hk with rfl | rfl | rfl | rfl <;> rfl
      have g4:(k==4)=false:=by rcases hk with rfl | rfl | rfl | rfl <;> rfl
      have g11:(k==11)=false:=by rcases hk with rfl | rfl | rfl | rfl <;> rfl
      have g9:(k==9)=false:=by rcases hk with rfl | rfl | rfl | rfl <;> rfl
      clear hat hks' hka ek0 ek1 hta htb hla hca hra hi0 hi1 hi8 n0 n1 hks KS HKS ha24 hb6 hk LA LB LR LT' HBne GA GB QA QB HT HI ET HL IT IP HCA HLA H24 H6 HN;have SS:Hid (∀ w1,Below wc.heap.size wc w1→w1.cell? ⟨B,0,none⟩=some (.int .i64 k)∧w1.cell? ⟨b2,o2,none⟩=some y0∧w1.cell? ⟨b2,o2+1,none⟩=some y1):=Lib.hid fun w1 hb=>⟨by rw [hb.cell (p:=⟨B,0,none⟩) hBl]; exact x0,by rw [hb.cell (p:=⟨b2,o2,none⟩) hb2l]; exact q0,by rw [hb.cell (p:=⟨b2,o2+1,none⟩) hb2l]; exact q1⟩
      go_wp2_with fail
      go_region_held3 (fun w'=>w'.cell? ⟨B,0,none⟩=some (.int .i64 k)∧w'.cell? ⟨b2,o2,none⟩=some y0∧w'.cell? ⟨b2,o2+1,none⟩=some y1) (first | exact SS.out _ (Below.refl _ _).drew | exact SS.out _ D1.out | exact SS.out _ D2.out | exact SS.out _ D3.out | exact SS.out _ D4.out | fail) (first
        | (go_at_call 42
           (with_reducible refine (QA'.out _ (Below.refl _ _).drew).mono ?_)
           rintro e w1 ⟨a1,n1,rfl,ht1,hb1⟩;have D1:=Lib.hid ((Below.refl wc.heap.size wc).drew.trans hb1);have TA:Hid (TsO any w1 (.slice a1 A1.length n1) A1):=Lib.hid (ht1.imp fun _ _ _=>trivial);clear ht1 hb1)
        | (go_at_call 42
           (with_reducible refine (QB'.out _ D1.out).mono ?_)
           rintro e w2 ⟨a2,n2,rfl,ht2,hb2⟩;have D2:=Lib.hid (D1.out.trans (hb2.mono D1.out.size));have TB:Hid (TsO any w2 (.slice a2 A2.length n2) A2):=Lib.hid (ht2.imp fun _ _ _=>trivial);have TA2:=Lib.hid (TA.out.below hb2);clear ht2 hb2)
        | (go_at_call 75
           (with_reducible refine (PT'.out _ _ _ TA2.out TB.out).mono ?_)
           rintro e w3 ⟨a3,n3,rfl,ht3,hb3⟩;have D3:=Lib.hid (D2.out.trans (hb3.mono D2.out.size));have CS:=Lib.hid (T.cSet _ M w3 ht3.trs LV.out LU.out);clear ht3 hb3)
        | (go_at_call 71
           (with_reducible refine CS.out.mono ?_)
           rintro e w4 ⟨v4,rfl,ht4,hb4⟩;have D4:=Lib.hid (D3.out.trans (hb4.mono D3.out.size));have T4:=Lib.hid ht4;rw [← HLL.out] at T4;obtain ⟨_,⟨_,a4,n4,rfl,_⟩,_⟩:=ht4;clear hb4)
        | fail)
      go_wp2_with fail;go_ret;rw [← HLL.out] at *;exact ⟨_,_,rfl,(TsO.of T4.out).imp fun _ _ _=>.inl trivial,BB.out.trans (D4.out.mono BB.out.size)⟩
end Mn
end Go.Proofs.YtaapnkoooofalaaGreat
