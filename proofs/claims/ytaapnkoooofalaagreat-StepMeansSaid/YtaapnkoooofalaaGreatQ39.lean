/- Laws that the last text leans on. -/
import Derived.Test.YtaapnkoooofalaaGreatQ38
import Derived.Test.YtaapnkoooofalaaGreatQ17
import Derived.Sort.OwnSorted
import Derived.Lib.OwnBridge

set_option maxRecDepth 20000
set_option maxHeartbeats 2000000
namespace Go.Proofs.YtaapnkoooofalaaGreat.Tr
open Go Go.RowKit Go.Sort
set_option maxRecDepth 20000
structure El (w:World) (g:Nat) where
  v:Value
  t:Tr
  hs:StrsO (fun b=>b≠g) w v t.a
  hl:t.a.length≤1000000000000
instance (w:World) (g:Nat):Inhabited (El w g):=⟨⟨.slice none 0 0,⟨[],0⟩,⟨rfl,none,0,rfl,Nat.le_refl _,fun _=>⟨rfl,rfl⟩,fun h=>absurd h (Nat.lt_irrefl _)⟩,by simp⟩⟩
def El.pair {w:World} {g:Nat} (x:El w g):Value × Value:=(x.v,.int .i64 x.t.e)
def encT {w:World} {g:Nat} (x:El w g):List Value:=[x.v,.int .i64 x.t.e]
def cfT {w:World} {g:Nat} (x y:El w g):Int:=cmp x.t y.t
theorem y4q {w:World} {g:Nat} {v:Value} {l:List ByteArray} (h:StrsO (fun b=>b≠g) w v l) (m:Nat) (dk:Array (El w g)) (os:Array Obj):Strs (sortWorldK encT 2 w g 0 m dk os) v l:=by
  obtain ⟨hl,a,cap,hv,hc,hn,hcell⟩:=h;refine ⟨hl,a,cap,hv,hc,hn,fun h0=>?_⟩;obtain ⟨b,off,ha,hne,hlt,hj⟩:=hcell h0;refine ⟨b,off,ha,fun j u hu=>?_⟩;unfold sortWorldK;rw [cell?_grow _ _ _ (by rw [size_putRowK]; exact hlt),cell?_putRowK_other _ _ _ _ _ _ _ hne];exact hj j u hu
theorem swoT (w:World) (g:Nat):SWO (ltOf (cfT (w:=w) (g:=g))) where
  irrefl x:=by simp [ltOf,cfT,z4c]
  trans x y z h1 h2:=decide_eq_true (z2c (of_decide_eq_true h1) (of_decide_eq_true h2))
  ntrans x y z h1 h2:=by
    refine decide_eq_false fun h=>?_
    replace h:cmp x.t z.t<0:=h;replace h1:¬ cmp x.t y.t<0:=of_decide_eq_false h1;replace h2:¬ cmp y.t z.t<0:=of_decide_eq_false h2
    rcases Int.lt_trichotomy (cmp x.t y.t) 0 with h3 | h3 | h3
    · exact h1 h3
    · rw [z4d h3] at h;exact h2 h
    · have h4:cmp y.t x.t<0:=by have:=z4e x.t y.t; omega
      exact h2 (z2c h4 h)
theorem cmpLaysT (w:World) (g n:Nat):CmpLays Tryz.prog 104 #[] (encT (w:=w) (g:=g)) 2 cfT g 0 n w:=
  fun m os dk _ x y=>z4g x.v y.v x.t y.t _ (y4q x.hs m dk os) (y4q y.hs m dk os) x.hl y.hl
theorem encT_one {w:World} {g:Nat} (x:El w g):∀ v∈encT x,v.oneCell'=true:=by
  intro v hv;obtain ⟨_,a,c,hx,_⟩:=x.hs;simp only [encT,List.mem_cons,List.mem_nil_iff,or_false] at hv
  rcases hv with rfl | rfl
  · rw [hx]; rfl
  · rfl
theorem holdsT {w:World} {g cap:Nat} {e:TypeId} (d:Array (El w g)) (h:Own2 w g e cap (d.toList.map El.pair)):HoldsK encT 2 w g 0 d:=by
  intro j hj;rw [size_flatK] at hj;refine ⟨?_,?_⟩
  · rw [get_flatK encT 2 d j hj];have hj2:j / 2<d.size:=by omega
    have hl:j / 2<(d.toList.map El.pair).length:=by simpa using hj2
    have h0:=h.cell0 (j / 2) hl;have h1:=h.cell1 (j / 2) hl;have e:d[j / 2]! = d[j / 2]:=getElem!_pos d (j / 2) hj2;simp only [List.getElem_map,Array.getElem_toList] at h0 h1;rw [e,Nat.zero_add]
    rcases Nat.mod_two_eq_zero_or_one j with hm | hm
    · rw [show j / 2*2=j by omega] at h0;rw [hm,h0]
      rfl
    · rw [show j / 2*2+1=j by omega] at h1;rw [hm,h1]
      rfl
  · exact h.soft _
theorem ownT {w:World} {g cap n:Nat} {e:TypeId} {d d':Array (El w g)} {os:Array Obj} (h:Own2 w g e cap (d.toList.map El.pair)) (hs:d'.size=d.size):Own2 (sortWorldK encT 2 w g 0 n d' os) g e cap (d'.toList.map El.pair):=by
  have hlt:=h.lt;obtain ⟨cur,hg,hsz,hl,hc⟩:=h;have hl':d.size≤cap:=by simpa using hl
  refine ⟨putCells id 0 (flatK encT 2 d') cur,?_,by simpa [putCells] using hsz,by simpa [hs] using hl',fun j hj=>?_⟩
  · unfold sortWorldK
    show ((putRowK encT 2 (Sort.ahead w n) g 0 d').heap++os)[g]?=_
    rw [Array.getElem?_append_left (by rw [size_putRowK]; exact hlt)];simp [putRowK,putRow,mapBlock,Sort.ahead,Array.getElem?_modify,hg,onCells]
  · have hj':j<d'.size:=by simpa using hj
    have e:d'[j]! = d'[j]:=getElem!_pos d' j hj';simp only [List.getElem_map,Array.getElem_toList]
    constructor
    · rw [putCells,Array.getElem?_mapIdx,Array.getElem?_eq_getElem (by omega),Option.map_some,if_pos (by simp; omega)];rw [Nat.sub_zero,get_flatK encT 2 d' _ (by omega),show j*2 / 2=j by omega,show j*2 % 2=0 by omega,e]
      rfl
    · rw [putCells,Array.getElem?_mapIdx,Array.getElem?_eq_getElem (by omega),Option.map_some,if_pos (by simp; omega)];rw [Nat.sub_zero,get_flatK encT 2 d' _ (by omega),show (j*2+1) / 2=j by omega,show (j*2+1) % 2=1 by omega,e]
      rfl
theorem gbT {w:World} {g n:Nat} {d':Array (El w g)} {os:Array Obj}:w.grownBy (sortWorldK encT 2 w g 0 n d' os) (some g):=
  ⟨rfl,rfl,rfl,by
    show w.heap.size≤((putRowK encT 2 (Sort.ahead w n) g 0 d').heap++os).size
    rw [Array.size_append,size_putRowK];exact Nat.le_add_right _ _,fun k hk hr=>by
    show ((putRowK encT 2 (Sort.ahead w n) g 0 d').heap++os)[k]?=_
    rw [Array.getElem?_append_left (by rw [size_putRowK]; exact hk)];have hne:g≠k:=fun e=>hr (by rw [e])
    simp [putRowK,putRow,mapBlock,Sort.ahead,Array.getElem?_modify,hne]⟩
theorem x5u (g cap:Nat) (w:World) (d:Array (El w g)) (h:Own2 w g 67 cap (d.toList.map El.pair)) (hlen:d.size≤1000000000000) :
    Calls Tryz.prog 103 #[.slice (some ⟨g,0,none⟩) d.size cap,.func (.func 104) #[] #[]] w fun e w'=>
      e=.returned (.tuple #[])∧∃ d':Array (El w g),d'.toList.Perm d.toList∧(d'.toList.Pairwise fun x y=>¬ cmp y.t x.t<0)∧Own2 w' g 67 cap (d'.toList.map El.pair)∧w.grownBy w' (some g):=by
  have eg:∀ args w,(callFunc 104 args).run Tryz.prog w=.ok (.enter 104 args) w:=enters_of Tryz.func104 (by kernel_rfl) rfl;have hcon:=AnyQ.slices_SortFunc Tryz.laysSoT 2 Tryz.isAgg67 Tryz.sizeOf67 encT (fun _=>rfl) encT_one cfT (swoT w g) 104 #[] g 0 cap d w eg (cmpLaysT w g d.size) (holdsT d h) h.lt (by omega);change Calls Tryz.prog 103 _ _ _ at hcon;refine hcon.mono fun e w' ⟨he,d',n,os,hp,hs,hw⟩=>⟨he,d',?_,?_,?_,?_⟩
  · obtain ⟨hsz,_,hperm⟩:=hp;have e1:d'.extract 0 d.size=d':=by rw [← hsz]; exact Array.extract_size
    rw [e1,Array.extract_size] at hperm;exact hperm
  · rw [List.pairwise_iff_getElem];intro i j hi hj hij;have hi':i<d'.size:=by simpa using hi
    have hj':j<d'.size:=by simpa using hj
    have:=hs i j (Nat.zero_le _) hij (by rw [← hp.1]; exact hj');rw [getElem!_pos d' i hi',getElem!_pos d' j hj'] at this
    show ¬ cmp d'[j].t d'[i].t<0
    exact of_decide_eq_false this
  · rw [hw]; exact ownT h hp.1
  · rw [hw]; exact gbT
end Go.Proofs.YtaapnkoooofalaaGreat.Tr
namespace Go.Proofs.YtaapnkoooofalaaGreat.Tr
open Go Go.RowKit
set_option maxRecDepth 20000
theorem Strs.inj {w:World} {v:Value} {l m:List ByteArray} (h1:Strs w v l) (h2:Strs w v m):l=m:=by
  obtain ⟨_,a,cap,rfl,_,_,hc⟩:=h1;obtain ⟨_,a',cap',hv,_,_,hc'⟩:=h2;injection hv with hv1 hlm hv3;subst hv1
  by_cases h0:0<l.length
  · obtain ⟨b,off,ha,hj⟩:=hc h0;obtain ⟨b',off',ha',hj'⟩:=hc' (by omega);rw [ha] at ha'
    cases ha'
    refine List.ext_getElem (by omega) fun k hk hk'=>?_
    have e1:=hj k (.string l[k]) (by simp [hk]);have e2:=hj' k (.string m[k]) (by simp [hk']);rw [e1] at e2;injection e2 with e3;injection e3
  · have e1:l=[]:=List.eq_nil_of_length_eq_zero (by omega);have e2:m=[]:=List.eq_nil_of_length_eq_zero (by omega);rw [e1,e2]
theorem El.t_of {w:World} {g:Nat} {x y:El w g} (h:x.pair=y.pair):x.t=y.t:=by
  have h1:x.v=y.v:=congrArg Prod.fst h;have h2:(Value.int .i64 x.t.e)=.int .i64 y.t.e:=congrArg Prod.snd h;have h3:x.t.e=y.t.e:=by injection h2
  have h4:x.t.a=y.t.a:=Strs.inj (Ap.RdO.rd x.hs) (by rw [h1]; exact Ap.RdO.rd y.hs)
  have ext:∀ p q:Tr,p.a=q.a→p.e=q.e→p=q:=fun ⟨a,e⟩ ⟨a',e'⟩ h1 h2=>by
    simp only at h1 h2;rw [h1,h2]
  exact ext _ _ h4 h3
theorem els_of {w w1:World} {g:Nat} (hb:Below w.heap.size w w1) (hg:w.heap.size≤g):∀ {cs:List Value} {l:List Tr},TrCells w cs l→(∀ t∈l,t.a.length≤1000000000000)→∃ els:List (El w1 g),els.map (·.t)=l∧flv (els.map El.pair)=cs
  | [],[],_,_=>⟨[],rfl,rfl⟩
  | a::e::cs,t::l,h,hl=>by
    obtain ⟨els,h1,h2⟩:=els_of hb hg h.2.2 fun u hu=>hl u (by simp [hu])
    refine ⟨⟨a,t,Ap.RdO.below (Ap.RdO.imp (Ap.RdO.of (by omega) h.1) fun b hlt _=>by omega) hb,hl t (by simp)⟩::els,by simp [h1],?_⟩;simp [flv,h2,El.pair,h.2.1]
  | [],_::_,h,_=>h.elim
  | [_],[],h,_=>h.elim
  | [_],_::_,h,_=>h.elim
  | _::_::_,[],h,_=>h.elim
theorem eq_pairs (w:World) (g:Nat):∃ q:Value × Value→Value × Value→Bool,∀ x y:El w g,q x.pair y.pair=(cmp x.t y.t==0):=by
  refine ⟨fun a b=>@decide (∃ x y:El w g,x.pair=a∧y.pair=b∧cmp x.t y.t=0) (Classical.propDecidable _),fun x y=>?_⟩;rw [Bool.eq_iff_iff];simp only [decide_eq_true_eq,beq_iff_eq]
  constructor
  · rintro ⟨x',y',h1,h2,h3⟩;rw [← El.t_of h1,← El.t_of h2];exact h3
  · intro h;exact ⟨x,y,rfl,rfl,h⟩
theorem x1q {α β:Type} (f:α→β) (q:β→β→Bool) (q':α→α→Bool) (h:∀ x y,q (f x) (f y)=q' x y):∀ (p:α) (l:List α),cptF q (f p) (l.map f)=(cptF q' p l).map f
  | p,[]=>rfl
  | p,x::l=>by
    simp only [List.map_cons,cptF,h,x1q f q q' h x l]
    split <;> rfl
theorem y0f {α β:Type} (f:α→β) (q:β→β→Bool) (q':α→α→Bool) (h:∀ x y,q (f x) (f y)=q' x y):∀ l:List α,cpt q (l.map f)=(cpt q' l).map f
  | []=>rfl
  | x::l=>by simp only [List.map_cons,cpt,x1q f q q' h x l]
theorem v0o:∀ (p:Tr) (l:List Tr),(p::l).Pairwise (fun x y=>¬ cmp y x<0)→Up (p::cptF (fun x y=>cmp x y==0) p l)∧∀ t,(t∈p::cptF (fun x y=>cmp x y==0) p l↔t∈p::l)
  | p,[],_=>⟨List.pairwise_singleton _ _,fun t=>Iff.rfl⟩
  | p,x::l,h=>by
    obtain ⟨h1,h2⟩:=List.pairwise_cons.1 h;obtain ⟨u1,u2⟩:=v0o x l h2;have hxp:=h1 x (by simp);rw [cptF]
    by_cases hc:cmp x p=0
    · have e:=z4d hc;subst e;rw [if_pos (by simpa using hc)];refine ⟨u1,fun t=>?_⟩;rw [u2 t];simp
    · rw [if_neg (by simpa using hc)];have hpx:cmp p x<0:=by have:=z4e p x; omega
      refine ⟨?_,fun t=>?_⟩
      · refine List.pairwise_cons.2 ⟨fun y hy=>?_,u1⟩;obtain ⟨v1,_⟩:=List.pairwise_cons.1 u1
        rcases List.mem_cons.1 hy with rfl | hy
        · exact hpx
        · exact z2c hpx (v1 y hy)
      · rw [List.mem_cons,u2 t,← List.mem_cons]
theorem cpt_norm (l:List Tr) (h:l.Pairwise fun x y=>¬ cmp y x<0):cpt (fun x y=>cmp x y==0) l=norm l:=by
  cases l with
  | nil=>rfl
  | cons p l=>
    obtain ⟨u1,u2⟩:=v0o p l h;exact z9j u1 u2
def PT (w:World) (g:Nat) (ys:List (Value × Value)) (ts:List Tr):Prop:=
  ys.length=ts.length∧∀ j (h:j<ts.length) (h':j<ys.length),StrsO (fun b=>b≠g) w ys[j].1 ts[j].a∧ys[j].2=.int .i64 ts[j].e
theorem PT.cells {w:World} {g:Nat}:∀ {ys:List (Value × Value)} {ts:List Tr},PT w g ys ts→TrCells w (flv ys) ts
  | [],[],_=>trivial
  | [],_::_,h=>by have:=h.1; simp at this
  | _::_,[],h=>by have:=h.1; simp at this
  | y::ys,t::ts,h=>by
    have h0:=h.2 0 (by simp) (by simp);refine ⟨Ap.RdO.rd h0.1,h0.2,PT.cells (g:=g) ⟨by have:=h.1; simpa using this,fun j h1 h2=>?_⟩⟩;have:=h.2 (j+1) (by simpa using h1) (by simpa using h2)
    simpa using this
theorem PT.gb {w w':World} {g:Nat} {ys:List (Value × Value)} {ts:List Tr} (h:PT w g ys ts) (hg:w.grownBy w' (some g)):PT w' g ys ts:=
  ⟨h.1,fun j h1 h2=>⟨by
    obtain ⟨hl,a,cap,hv,hc,hn,hcell⟩:=(h.2 j h1 h2).1;refine ⟨hl,a,cap,hv,hc,hn,fun h0=>?_⟩;obtain ⟨b,off,ha,hne,hlt,hj⟩:=hcell h0;refine ⟨b,off,ha,hne,Nat.lt_of_lt_of_le hlt hg.size,fun i u hu=>?_⟩;rw [World.cell?_of_block (w:=w) (a:=⟨b,off+i,none⟩) (hg.block b hlt fun e=>hne (by cases e; rfl))];exact hj i u hu,(h.2 j h1 h2).2⟩⟩
theorem PT.els {w:World} {g:Nat} (els:List (El w g)):PT w g (els.map El.pair) (els.map (·.t)):=
  ⟨by simp,fun j h1 h2=>by
    simp only [List.getElem_map];exact ⟨(els[j]'(by simpa using h1)).hs,rfl⟩⟩
theorem PT.set {w:World} {g:Nat} {ys:List (Value × Value)} {ts:List Tr} (h:PT w g ys ts) (k:Nat) (hk:k<ts.length) (hk':k<ys.length) (v:Value) (hv:StrsO (fun b=>b≠g) w v ts[k].a):PT w g (ys.set k (v,ys[k].2)) ts:=by
  refine ⟨by simpa using h.1,fun j h1 h2=>?_⟩
  by_cases hjk:k=j
  · subst hjk;simp only [List.getElem_set_self];exact ⟨hv,(h.2 k hk hk').2⟩
  · rw [List.getElem_set_ne hjk];exact h.2 j h1 (by simpa using h2)
theorem x3d {w:World} {base g:Nat} {v:Value} {l:List ByteArray} (h:w.ownsRow base 9 1 v l.length (l.map .string)) (hg:g<base):StrsO (fun b=>b≠g) w v l:=
  Ap.RdO.imp (Ap.RdO.fresh h) fun b _ hb=>by omega
theorem z5b (l:List ByteArray):∀ u∈l.map Value.string,u.oneCell'=true:=fun u hu=>by
  obtain ⟨b,_,rfl⟩:=List.mem_map.1 hu
  rfl
theorem y1x {w:World}:∀ {cs:List Value} {ts:List Tr},TrCells w cs ts→∀ u∈cs,u.oneCell'=true
  | [],[],_,u,hu=>by cases hu
  | a::e::cs,t::l,h,u,hu=>by
    rcases List.mem_cons.1 hu with rfl | hu
    · obtain ⟨_,_,_,rfl,_⟩:=h.1
      rfl
    · rcases List.mem_cons.1 hu with rfl | hu
      · rw [h.2.1]; rfl
      · exact y1x h.2.2 u hu
  | [],_::_,h,_,_=>h.elim
  | [_],[],h,_,_=>h.elim
  | [_],_::_,h,_,_=>h.elim
  | _::_::_,[],h,_,_=>h.elim
theorem y6m (c:Nat) (w:World):Calls Tryz.prog 105 #[.slice none 0 c,.func (.func 106) #[] #[]] w fun e w'=>e=.returned (.slice none 0 c)∧w'=w:=by
  go_enter Tryz.func105,Tryz.ntmps105
  go_wp2_with fail;go_ret;exact ⟨rfl,rfl⟩
theorem x5t (c:Nat) (fv:Value) (w:World):Calls Tryz.prog 103 #[.slice none 0 c,fv] w fun e w'=>e=.returned (.tuple #[])∧w'=w:=by
  have hcon:=AnyF.slices_SortFunc_none Tryz.laysSoT none c fv w;change Calls Tryz.prog 103 _ _ _ at hcon;exact hcon
theorem y6n {w:World} {g cap:Nat} (d:Array (El w g)) (w1:World) (hs:d.toList.Pairwise fun x y=>¬ cmp y.t x.t<0) (ho:Own2 w1 g 67 cap (d.toList.map El.pair)) (hg:w.grownBy w1 (some g)) (hlen:d.size≤1000000000000) :
    Calls Tryz.prog 105 #[.slice (some ⟨g,0,none⟩) d.size cap,.func (.func 106) #[] #[]] w1 fun e w'=>
      ∃ ys,e=.returned (.slice (some ⟨g,0,none⟩) (norm (d.toList.map (·.t))).length cap)∧Own2 w' g 67 cap ys∧PT w' g ys (norm (d.toList.map (·.t)))∧w1.grownBy w' (some g):=by
  obtain ⟨q,hq⟩:=eq_pairs w g
  have hcon:=compactT g cap q (d.toList.map El.pair) w1 ho (by simpa using hlen)
    (fun x hx=>by
      obtain ⟨el,_,rfl⟩:=List.mem_map.1 hx;obtain ⟨_,a,c,hv,_⟩:=el.hs;exact ⟨a,_,c,_,by rw [El.pair,hv]⟩)
    (fun W hW x hx y hy=>by
      obtain ⟨ex,_,rfl⟩:=List.mem_map.1 hx;obtain ⟨ey,_,rfl⟩:=List.mem_map.1 hy;have k:=(PT.els [ex,ey]).gb (z0c hg hW);have k0:=k.2 0 (by simp) (by simp);have k1:=k.2 1 (by simp) (by simp);have hc:=set1_any ex.v ey.v ex.t ey.t W (Ap.RdO.rd k0.1) (Ap.RdO.rd k1.1) ex.hl ey.hl;unfold EqPost at hc;rw [← hq] at hc;exact hc)
  have e1:cpt q (d.toList.map El.pair)=(cpt (fun x y:El w g=>cmp x.t y.t==0) d.toList).map El.pair:=y0f El.pair q _ hq _
  have e2:(cpt (fun x y:El w g=>cmp x.t y.t==0) d.toList).map (·.t)=norm (d.toList.map (·.t)):=by
    rw [← cpt_norm (d.toList.map (·.t)) (by rw [List.pairwise_map]; exact hs)];exact (y0f (fun x:El w g=>x.t) (fun x y=>cmp x y==0) _ (fun _ _=>rfl) _).symm
  rw [List.length_map,Array.length_toList] at hcon;refine hcon.mono fun e w' ⟨he,ho',hg'⟩=>⟨_,?_,ho',?_,hg'⟩
  · rw [he,e1,← e2,List.length_map,List.length_map]
  · rw [e1,← e2];exact (PT.els _).gb (z0c hg hg')
theorem x0a (x:Value) (l:List Tr) (w:World) (hx:Trs w x l) (hlen:l.length≤1000000000000) (hl:∀ t∈l,t.a.length≤1000000000000):Calls Tryz.prog 71 #[x] w (SetPost (norm l) w):=by
  obtain ⟨cs,hrd,htc⟩:=hx;have HC:=Lib.hid (x4g x l.length cs w hrd (y1x htc) hlen);have HT:=Lib.hid htc;have HL:=Lib.hid hl;have HLN:=Lib.hid (fun t ht=>hl t ((z0s t l).1 ht));have hnl:=z1b l;obtain ⟨hcl,a,c,rfl,_,_,_⟩:=hrd;unfold SetPost;clear htc hl;obtain ⟨nl,hnn⟩:∃ nl,norm l=nl:=⟨_,rfl⟩
  rw [hnn] at hnl HLN ⊢;have HNN:=Lib.hid hnn;clear hnn
  go_enter Tryz.func71,Tryz.ntmps71
  go_wp2_with fail;refine HC.out.mono ?_;rintro e w1 ⟨v1,rfl,hown,hb1⟩;obtain ⟨_,⟨rfl,h0⟩ | ⟨g,cap,cur,rfl,hrest⟩⟩:=id hown
  · obtain rfl:l=[]:=List.eq_nil_of_length_eq_zero h0;have HB:=Lib.hid hb1;clear hb1 hown
    go_wp2_with (first
      | (go_at_call 103; refine (x5t _ _ _).mono ?_; rintro e w' ⟨rfl,rfl⟩)
      | (go_at_call 105; refine (y6m _ _).mono ?_; rintro e w' ⟨rfl,rfl⟩))
    refine Go.wp_loop_rounds 1 ?_;rw [rounds_succ];go_wp2_with fail;go_ret;refine ⟨_,rfl,?_,HB.out⟩;rw [← HNN.out];exact ⟨[],⟨rfl,none,0,rfl,Nat.le_refl _,fun _=>⟨rfl,rfl⟩,fun h=>absurd h (Nat.lt_irrefl _)⟩,trivial⟩
  · clear hrest;obtain ⟨ys,hf,hyl,ho,hbg,hcm⟩:=Own2.of hown;obtain ⟨els,he1,he2⟩:=els_of hb1 hbg HT.out HL.out
    have hys:ys=els.map El.pair:=by
      have hlen2:els.length=ys.length:=by rw [hyl,← he1,List.length_map]
      refine List.ext_getElem (by simpa using hlen2.symm) fun k hk hk'=>?_
      have f1:=y5z ys k hk;have f2:=y5z (els.map El.pair) k hk';rw [hf,← he2] at f1;rw [f2.1,f2.2] at f1;exact Prod.ext (by injection f1.1.symm) (by injection f1.2.symm)
    have hel:els.toArray.size=l.length:=by rw [← he1]; simp
    have S1:=Lib.hid (x5u g cap w1 els.toArray (by rw [← hys]; exact ho) (by omega));rw [hel] at S1;have HB:=Lib.hid hb1;have HBG:=Lib.hid hbg;have HE:=Lib.hid he1;have HW:=Lib.hid hb1.size;clear hys ho hown hf hyl he2 hb1 he1 hbg ys;go_wp2_with fail;refine S1.out.mono ?_;rintro e w2 ⟨rfl,d,hp,hs,ho2,hg2⟩;have hdl:d.size=l.length:=by rw [← hel]; have:=hp.length_eq; simpa using this
    have S2:=Lib.hid (y6n d w2 (hs.imp fun {x y} h=>by omega) ho2 hg2 (by omega))
    have e3:norm (d.toList.map (·.t))=nl:=by
      rw [← HNN.out];refine y1d fun t=>?_
      rw [← HE.out];exact (hp.map (·.t)).mem_iff
    rw [hdl,e3] at S2;have HG2:=Lib.hid hg2;clear hp hs ho2 hg2 e3 hdl S1;go_wp2_with fail;refine S2.out.mono ?_;rintro e w3 ⟨ys,rfl,ho3,hpt3,hg3⟩;have HO3:=Lib.hid ho3;have HP3:=Lib.hid hpt3;have HG3:=Lib.hid (z0c HG2.out hg3);clear ho3 hpt3 hg3 S2;go_wp2_with fail
    go_loopw [13] (fun kv wr=>∃ (k:Nat) (zs:List (Value × Value)),k≤nl.length∧kv=.int .i64 (k:Int)∧Own2 wr g 67 cap zs∧PT wr g zs nl∧w1.grownBy wr (some g)) (fun kv _=>nl.length-(intOf kv).toNat)
    case atStart=>exact ⟨0,ys,Nat.zero_le _,rfl,HO3.out,HP3.out,HG3.out⟩
    case round=>
      obtain ⟨k,zs,hk,rfl,ho,hpt,hg⟩:=hrel;have HO:=Lib.hid ho;have HP:=Lib.hid hpt;have HG:=Lib.hid hg;have hzl:=hpt.1;clear ho hpt hg
      by_cases hlt:k<nl.length
      · have hkz:k<zs.length:=by omega
        have k0:=HP.out.2 k hlt hkz;have c0:=HO.out.cell0 k hkz;have CL:=Lib.hid (z5j zs[k].1 nl[k].a.length (nl[k].a.map .string) wr (Ap.RdO.rd k0.1) (z5b _) (HLN.out _ (List.getElem_mem hlt)));obtain ⟨_,a',c',hv',_⟩:=k0.1;rw [hv'] at c0 CL;clear hv' k0;go_wp2_with fail;refine CL.out.mono ?_;rintro e w4 ⟨v4,rfl,hown4,hb4⟩;have hgl:=HO.out.lt;have O4:=HO.out.below hb4;have f0:=O4.soft (k*2);have t0:w4.cell? ⟨g,k*2,none⟩=some (.slice a' nl[k].a.length c'):=by rw [hb4.cell (p:=⟨g,k*2,none⟩) hgl]; exact c0
        have PV:=Lib.hid (x3d hown4 hgl);have HO4:=Lib.hid O4;have HP4:=Lib.hid (HP.out.gb (z0r hb4));have HG4:=Lib.hid (z0c HG.out (z0r hb4));obtain ⟨_,a4,c4,rfl,_⟩:=Ap.Rd.owned hown4;clear hown4 hb4 O4 c0 CL;go_wp2_with fail
        go_roundw
        case rel=>
          refine ⟨k+1,_,by omega,by go_num,HO4.out.store0 k hkz _,PT.gb (HP4.out.set k hlt hkz _ PV.out) (z0n _ _ _ _),z0c HG4.out (z0n _ _ _ _)⟩
        case measure=>simp [intOf]; omega
      · go_wp2_with fail;go_ret;refine ⟨_,rfl,?_,?_⟩
        · have hzn:zs.length=nl.length:=by omega
          have:=HO.out.owns HBG.out hcm;rw [hzn] at this;exact ⟨flv zs,Ap.Rd.owned this,HP.out.cells⟩
        · exact z6v HB.out HG.out HBG.out HW.out
end Go.Proofs.YtaapnkoooofalaaGreat.Tr
namespace Go.Proofs.YtaapnkoooofalaaGreat
namespace Tr
open Go Go.RowKit
def RsC (ok:Nat→Prop) (w:World):List Value→List Rst→Prop
  | [],[]=>True
  | a::b::cs,q::qs=>StrsO ok w a q.1∧StrsO ok w b q.2∧RsC ok w cs qs
  | _,_=>False
def Rss (ok:Nat→Prop) (w:World) (v:Value) (left:List Rst):Prop:=∃ cs,Ap.RdO ok w 2 v left.length cs∧RsC ok w cs left
theorem RsC.map {ok ok':Nat→Prop} {w w':World} (h:∀ v l,StrsO ok w v l→StrsO ok' w' v l):∀ {cs:List Value} {qs:List Rst},RsC ok w cs qs→RsC ok' w' cs qs
  | [],[],_=>trivial
  | _::_::_,_::_,hr=>⟨h _ _ hr.1,h _ _ hr.2.1,RsC.map h hr.2.2⟩
  | [],_::_,hr=>hr.elim
  | [_],[],hr=>hr.elim
  | [_],_::_,hr=>hr.elim
  | _::_::_,[],hr=>hr.elim
theorem RsC.at {ok:Nat→Prop} {w:World}:∀ {cs:List Value} {qs:List Rst},RsC ok w cs qs→∀ k (hk:k<qs.length),∃ a b,cs[2*k]?=some a∧cs[2*k+1]?=some b∧StrsO ok w a qs[k].1∧StrsO ok w b qs[k].2
  | [],[],_,k,hk=>by simp at hk
  | a::b::cs,q::qs,h,0,_=>⟨a,b,rfl,rfl,h.1,h.2.1⟩
  | a::b::cs,q::qs,h,k+1,hk=>by
    obtain ⟨x,y,h1,h2,h3⟩:=RsC.at h.2.2 k (by simpa using hk);refine ⟨x,y,?_,?_,h3⟩
    · rw [show 2*(k+1)=2*k+1+1 by omega]; simpa using h1
    · rw [show 2*(k+1)+1=2*k+1+1+1 by omega]; simpa using h2
  | [],_::_,h,_,_=>h.elim
  | [_],[],h,_,_=>h.elim
  | [_],_::_,h,_,_=>h.elim
  | _::_::_,[],h,_,_=>h.elim
theorem Rss.form {ok:Nat→Prop} {w:World} {v:Value} {qs:List Rst} (h:Rss ok w v qs):∃ a cap,v=.slice a qs.length cap∧
    ∀ k,(hk:k<qs.length)→∃ b off x y,a=some ⟨b,off,none⟩∧w.cell? ⟨b,off+k*2,none⟩=some x∧w.cell? ⟨b,off+k*2+1,none⟩=some y∧Strs w x qs[k].1∧Strs w y qs[k].2:=by
  obtain ⟨cs,⟨_,a,cap,rfl,_,_,hcell⟩,hc⟩:=h;refine ⟨a,cap,rfl,fun k hk=>?_⟩;obtain ⟨b,off,ha,_,_,hj⟩:=hcell (by omega);obtain ⟨x,y,h1,h2,h3,h4⟩:=hc.at k hk;exact ⟨b,off,x,y,ha,by rw [Nat.mul_comm k 2]; exact hj _ _ h1,by rw [Nat.mul_comm k 2,Nat.add_assoc]; exact hj _ _ h2,Ap.RdO.rd h3,Ap.RdO.rd h4⟩
theorem v0p:∀ (p:List UInt8) (l:List (List UInt8)),(p::l).Pairwise (fun x y=>Op.bytesLess y x=false)→(p::cptF (fun x y=>x==y) p l).Pairwise (fun x y=>Op.bytesLess x y=true)∧∀ t,(t∈p::cptF (fun x y=>x==y) p l↔t∈p::l)
  | p,[],_=>⟨List.pairwise_singleton _ _,fun t=>Iff.rfl⟩
  | p,x::l,h=>by
    obtain ⟨h1,h2⟩:=List.pairwise_cons.1 h;obtain ⟨u1,u2⟩:=v0p x l h2;have hxp:=h1 x (by simp);rw [cptF]
    by_cases hc:x=p
    · subst hc;rw [if_pos (by simp)];refine ⟨u1,fun t=>?_⟩;rw [u2 t];simp
    · rw [if_neg (by simpa using hc)]
      have hpx:Op.bytesLess p x=true:=by
        cases hh:Op.bytesLess p x with
        | true=>rfl
        | false=>exact absurd (v1a _ _ hxp hh) hc
      refine ⟨?_,fun t=>?_⟩
      · refine List.pairwise_cons.2 ⟨fun y hy=>?_,u1⟩;obtain ⟨v1,_⟩:=List.pairwise_cons.1 u1
        rcases List.mem_cons.1 hy with rfl | hy
        · exact hpx
        · exact y4e _ _ _ hpx (v1 y hy)
      · rw [List.mem_cons,u2 t,← List.mem_cons]
theorem y0h (zs:List (List UInt8)):Lib.compact zs=cpt (fun x y=>x==y) zs:=by
  have:∀ k,k≤zs.length→Lib.compactUpTo zs.toArray k=cpt (fun x y=>x==y) (zs.take k):=by
    intro k
    induction k with
    | zero=>intro _; simp [Lib.compactUpTo,cpt]
    | succ k ih=>
      intro hk;rw [Lib.compactUpTo_succ,ih (by omega)];have e:zs.toArray[k]! = zs[k]:=by simp [show k<zs.length by omega]
      by_cases h0:k=0
      · subst h0
        cases zs with
        | nil=>simp at hk
        | cons z zs=>simp [Lib.keeps,cpt,cptF]
      · rw [y0g _ zs k (by omega) (by omega),e]
        congr 1
        have e2:zs.toArray[k-1]! = zs[k-1]:=by simp [show k-1<zs.length by omega]
        by_cases hc:zs[k]=zs[k-1]
        · rw [Lib.keeps_neg (by omega) (by rw [e,e2]; exact hc)]; simp [hc]
        · rw [Lib.keeps_pos (by rw [e,e2]; exact hc)]; simp [hc]
  have h:=this zs.length (Nat.le_refl _);rw [List.take_length] at h;rw [← h]
  rfl
theorem sort_pw (ss:List (List UInt8)):(ss.mergeSort fun x y=>decide (x≤y)).Pairwise (fun x y=>Op.bytesLess y x=false):=by
  have h:=List.pairwise_mergeSort (le:=fun x y:List UInt8=>decide (x≤y)) (fun a b c h1 h2=>by simp only [decide_eq_true_eq] at *; exact List.le_trans h1 h2) (fun a b=>by simp only [Bool.or_eq_true,decide_eq_true_eq]; exact List.le_total a b) ss;refine h.imp fun {x y} h=>?_
  rw [bytesLess_eq];simp only [decide_eq_true_eq] at h
  simpa using h
theorem nx_of (acc:List ByteArray):∃ nx:List ByteArray,(Lib.compact ((acc.map (·.data.toList)).mergeSort fun x y=>decide (x≤y))).map Go.Proofs.encStr=nx.map .string∧UpS nx∧∀ x,x∈nx↔x∈acc:=by
  obtain ⟨zs,hz⟩:∃ zs,((acc.map (·.data.toList)).mergeSort fun x y=>decide (x≤y))=zs:=⟨_,rfl⟩
  have hp:=sort_pw (acc.map (·.data.toList));have hm:∀ t,t∈zs↔t∈acc.map (·.data.toList):=fun t=>by rw [← hz]; exact List.mem_mergeSort
  rw [hz] at hp ⊢
  have h2:(cpt (fun x y=>x==y) zs).Pairwise (fun x y=>Op.bytesLess x y=true)∧∀ t,t∈cpt (fun x y=>x==y) zs↔t∈zs:=by
    cases zs with
    | nil=>exact ⟨List.Pairwise.nil,fun t=>Iff.rfl⟩
    | cons p l=>exact v0p p l hp
  rw [y0h];refine ⟨(cpt (fun x y=>x==y) zs).map fun l=>⟨l.toArray⟩,?_,?_,fun x=>?_⟩
  · rw [List.map_map]
    rfl
  · unfold UpS;rw [List.pairwise_map];refine h2.1.imp fun {a b} h=>?_
    rw [ls,ByteArray.toList_eq,ByteArray.toList_eq]
    simpa using h
  · rw [List.mem_map]
    constructor
    · rintro ⟨l,hl,rfl⟩;obtain ⟨y,hy,rfl⟩:=List.mem_map.1 ((hm l).1 ((h2.2 l).1 hl))
      simpa using hy
    · intro hx;exact ⟨x.data.toList,(h2.2 _).2 ((hm _).2 (List.mem_map.2 ⟨x,hx,rfl⟩)),by simp⟩
theorem x2l (c:Nat) (w:World):Calls Tryz.prog 237 #[.slice none 0 c] w fun e w'=>e=.returned (.tuple #[])∧w'=w:=by
  have hcon:=AnyM.slices_Sort_string_none Tryz.laysSoS none c w;change Calls Tryz.prog 237 _ _ _ at hcon;exact hcon
theorem y4b (c:Nat) (w:World):Calls Tryz.prog 238 #[.slice none 0 c] w fun e w'=>e=.returned (.slice none 0 c)∧w'=w:=by
  have hcon:=Any.slices_Compact_string_empty Tryz.lays194 none c w;change Calls Tryz.prog 238 _ _ _ at hcon;exact hcon
theorem x5v {w:World} {base g cap n:Nat} {zs:List (List UInt8)} (h:w.ownsRow base 9 1 (.slice (some ⟨g,0,none⟩) n cap) n (zs.map encStr)) (hn:n≤1000000000000) :
    Calls Tryz.prog 237 #[.slice (some ⟨g,0,none⟩) n cap] w fun e w'=>e=.returned (.tuple #[])∧w'.ownsRow base 9 1 (.slice (some ⟨g,0,none⟩) n cap) n ((zs.mergeSort fun x y=>decide (x≤y)).map encStr)∧w.grownBy w' (some g):=by
  have hl:zs.length=n:=by simpa using h.1
  rcases h.2 with ⟨h0,_⟩ | ⟨g',cap',cur,h0,hb,hg,h1,h2,h3,h4⟩
  · cases h0
  · cases h0
    subst hl;have hcon:=AnyM.slices_Sort_string Tryz.laysSoS g 0 cap zs w (holds_of_block hg (by simpa using h4)) (z5t hg) (by omega);change Calls Tryz.prog 237 _ _ _ at hcon;refine hcon.mono fun e w' ⟨he,n,os,hw⟩=>⟨he,?_,?_⟩
    · rw [hw];exact ownsRow_sorted (by simp) hb hg h1 h2 h3
    · rw [hw];exact grownBy_sorted _
theorem y6o {w:World} {base g cap n:Nat} {zs:List (List UInt8)} (h:w.ownsRow base 9 1 (.slice (some ⟨g,0,none⟩) n cap) n (zs.map encStr)) (hn:n≤1000000000000) :
    Calls Tryz.prog 238 #[.slice (some ⟨g,0,none⟩) n cap] w fun e w'=>e=.returned (.slice (some ⟨g,0,none⟩) (Lib.compact zs).length cap)∧w'.ownsRow base 9 1 (.slice (some ⟨g,0,none⟩) (Lib.compact zs).length cap) (Lib.compact zs).length ((Lib.compact zs).map encStr)∧w.grownBy w' (some g):=by
  obtain ⟨g',cap',h0,_,_,hnc,_,hl,hH⟩:=Lib.holds_of_ownsRow h (by intro h; cases h)
  cases h0
  subst hl;have hle:(Lib.compact zs).length≤zs.length:=by rw [y0h]; exact cpt_le _ _
  have hcon:=Any.slices_Compact_string Tryz.lays194 g 0 cap zs w hH (by omega) hnc;change Calls Tryz.prog 238 _ _ _ at hcon;refine hcon.mono fun e w' ⟨he,q,hw⟩=>⟨he,?_,?_⟩
  · rw [hw];have:=Lib.ownsRow_putRow (q:=q) (k:=(Lib.compact zs).length) (ys:=Lib.compact zs++List.replicate (zs.length-(Lib.compact zs).length) []) h (by simp; omega) hle;rw [List.take_left' rfl] at this;exact this
  · rw [hw];have:=grownBy_sorted (w:=w) (g:=g) (n:=q) (os:=#[]) (Lib.compact zs++List.replicate (zs.length-(Lib.compact zs).length) []).toArray
    rwa [Go.Sort.grow_empty] at this
theorem x3p (left:List Rst) (k:Nat) (h:k<left.length):heads (left.take (k+1))=heads (left.take k)++left[k].1.take 1++left[k].2.take 1:=by
  rw [List.take_succ_eq_append_getElem h,heads,List.flatMap_append];simp [heads]
theorem y5w:∀ left:List Rst,(heads left).length≤2*left.length
  | []=>by simp [heads]
  | q::left=>by
    have:=y5w left;have e:heads (q::left)=q.1.take 1++q.2.take 1++heads left:=by simp [heads]
    rw [e];simp;omega
theorem y0w {w:World} {a:Option Addr} {c:Nat} {l:List ByteArray} (h:Strs w (.slice a l.length c) l):Strs w (.slice a (l.take 1).length c) (l.take 1):=by
  obtain ⟨_,a',c',hv,hc,hn,hcell⟩:=h
  cases hv
  refine ⟨by simp,a,c,rfl,by simp; omega,fun h=>?_,fun h0=>?_⟩
  · obtain ⟨h1,h2⟩:=hn h;exact ⟨by simp [h1],h2⟩
  · have h0':0<l.length:=by simp at h0; omega
    obtain ⟨b,off,ha,hj⟩:=hcell h0';refine ⟨b,off,ha,fun j u hu=>hj j u ?_⟩;rw [List.map_take] at hu;rw [List.getElem?_take] at hu
    split at hu
    · exact hu
    · cases hu
theorem x8c (l:List ByteArray):min (1:Int) (l.length:Int)=((l.take 1).length:Int):=by
  rw [List.length_take];omega
theorem y9u (l:List ByteArray):(l.take 1).length≤1∧(l.take 1).length≤l.length:=by
  rw [List.length_take];omega
theorem x3w (v:Value) (left:List Rst) (w:World) (h:Rss (fun _=>True) w v left) (hlen:left.length≤100000) (hq:∀ q∈left,q.1.length≤1000∧q.2.length≤1000) :
    Calls Tryz.prog 229 #[v] w fun e w'=>∃ vn nx,e=.returned vn∧w'.ownsRow w.heap.size 9 1 vn nx.length (nx.map .string)∧UpS nx∧(∀ x,x∈nx↔x∈heads left)∧Below w.heap.size w w':=by
  obtain ⟨a,cap,rfl,hf⟩:=h.form;have HF:=Lib.hid hf;have HQ:=Lib.hid hq;clear hf hq h
  go_enter Tryz.func229,Tryz.ntmps229
  go_wp2_with fail
  go_loopw [3,8] (fun vn i wr=>∃ k:Nat,k≤left.length∧i=.int .i64 (k:Int)∧wr.ownsRow w.heap.size 9 1 vn (heads (left.take k)).length ((heads (left.take k)).map .string)∧Below w.heap.size w wr) (fun _ i _=>left.length-(intOf i).toNat)
  case atStart=>exact ⟨0,Nat.zero_le _,rfl,⟨rfl,.inl ⟨rfl,rfl⟩⟩,Below.refl _ _⟩
  case round=>
    obtain ⟨k,hk,rfl,hown,hb⟩:=hrel;have HO:=Lib.hid hown;have HB:=Lib.hid hb;have hhl:=y5w (left.take k);have hkk:(left.take k).length=k:=by simp; omega
    by_cases hlt:k<left.length
    · obtain ⟨b,off,x,y,rfl,e0,e1,s0,s1⟩:=HF.out k hlt;have c0:wr.cell? ⟨b,off+k*2,none⟩=some x:=by rw [hb.cell (Ap.z0a e0)]; exact e0
      have c1:wr.cell? ⟨b,off+k*2+1,none⟩=some y:=by rw [hb.cell (Ap.z0a e1)]; exact e1
      have hq:=HQ.out _ (List.getElem_mem hlt);have HT:=Lib.hid (x3p left k hlt);obtain ⟨q,hqq⟩:∃ q,left[k]=q:=⟨_,rfl⟩
      rw [hqq] at hq HT s0 s1;clear hqq;have hba:∀ o,Below w.heap.size w (wr.alloc o):=fun o=>hb.alloc hb.size o
      obtain ⟨_,ax,cx,rfl,hcx,-⟩:=id s0;obtain ⟨_,ay,cy,rfl,hcy,-⟩:=id s1;have S0:=Lib.hid (fun o=>y0w (s0.below (hba o)));have m0:=x8c q.1;have m1:=x8c q.2;obtain ⟨l0,lx⟩:=y9u q.1;obtain ⟨l1,ly⟩:=y9u q.2;obtain ⟨_,a3,c3,rfl,-⟩:=id (Ap.Rd.owned hown);obtain ⟨v1,w1,hr1,ho1,hg1,hb1,_⟩:=z2w (hown.alloc (.cells #[.slice ax q.1.length cx,.slice ay q.2.length cy] 210)) (hba _).size (S0.out _) (by omega)
      have hne:some wr.heap.size≠(Value.slice a3 (heads (left.take k)).length c3).ownBlock:=fun e=>by
        have:=Ap.z6g hown _ e.symm;omega
      have d1:w1.cell? ⟨wr.heap.size,1,none⟩=some (.slice ay q.2.length cy):=hg1.cell (a:=⟨wr.heap.size,1,none⟩) (by simp) hne;have hB1:=(hba (.cells #[.slice ax q.1.length cx,.slice ay q.2.length cy] 210)).trans hb1;obtain ⟨_,a4,c4,rfl,-⟩:=id (Ap.Rd.owned ho1);obtain ⟨v2,w2,hr2,ho2,_,hb2,_⟩:=z2w ho1 hB1.size (y0w (s1.below hB1)) (by rw [List.length_append]; omega);have R1:=Lib.hid hr1;have R2:=Lib.hid hr2;have O2:=Lib.hid ho2;have B2:=Lib.hid (hB1.trans hb2);clear hr1 hr2 ho2 hb2 hB1 hb1 hg1 ho1 s0 s1 hown hb hba hne S0;obtain ⟨t0,ht0⟩:∃ t0,(q.1.take 1).length=t0:=⟨_,rfl⟩
      obtain ⟨t1,ht1⟩:∃ t1,(q.2.take 1).length=t1:=⟨_,rfl⟩
      rw [ht0] at m0 l0 lx R1;rw [ht1] at m1 l1 ly R2;obtain ⟨n1,hn1⟩:∃ n1,(heads (left.take k)++q.1.take 1).length=n1:=⟨_,rfl⟩
      rw [hn1] at R1 R2;clear ht0 ht1 hn1
      go_wp2_with (first
        | (at_builtin; refine Ap.wpList_append_run (by rfl) (.tmp 12) (.tmp 19) _ _ rfl _ _ rfl rfl _ w1 R1.out ?_)
        | (at_builtin; refine Ap.wpList_append_run (by rfl) (.tmp 21) (.tmp 28) _ _ rfl _ _ rfl rfl v2 w2 R2.out ?_))
      go_roundw
      case rel=>exact ⟨k+1,by omega,by go_num,by rw [HT.out]; exact O2.out,B2.out⟩
      case measure=>simp [intOf]; omega
    · have hkl:k=left.length:=by omega
      rw [hkl,List.take_length] at hown hhl;obtain ⟨nx,n1,n2,n3⟩:=nx_of (heads left);have hown':=hown;rw [← Lib.map_encStr] at hown';obtain ⟨_,⟨rfl,h0⟩ | ⟨g,c3,cur,rfl,hbg,hgg,-⟩⟩:=id hown
      · have h00:heads left=[]:=List.eq_nil_of_length_eq_zero h0;have HH:=Lib.hid h00;clear hown hown' hb n1 n2 n3
        go_wp2_with (first
          | (go_at_call 237; refine (x2l _ _).mono ?_; rintro e w' ⟨rfl,rfl⟩)
          | (go_at_call 238; refine (y4b _ _).mono ?_; rintro e w' ⟨rfl,rfl⟩))
        go_ret;exact ⟨_,[],rfl,⟨rfl,.inl ⟨rfl,rfl⟩⟩,List.Pairwise.nil,fun x=>by rw [HH.out],HB.out⟩
      · have S1:=Lib.hid (x5v hown' (by omega));have N1:=Lib.hid n1;have N2:=Lib.hid n2;have N3:=Lib.hid n3;have hgl:g<wr.heap.size:=z5t hgg;clear hown hown' hb n1 n2 n3 hgg;go_wp2_with fail;refine S1.out.mono ?_;rintro e w4 ⟨rfl,ho4,hg4⟩;have S2:=Lib.hid (y6o ho4 (by omega));have B4:=Lib.hid (z6v HB.out hg4 hbg HB.out.size);clear ho4 hg4 S1;go_wp2_with fail;refine S2.out.mono ?_;rintro e w5 ⟨rfl,ho5,hg5⟩
        have hnl:(Lib.compact ((heads left).map (·.data.toList) |>.mergeSort fun x y=>decide (x≤y))).length=nx.length:=by
          have:=congrArg List.length N1.out
          simpa using this
        rw [N1.out,hnl] at ho5;have O5:=Lib.hid ho5;have B5:=Lib.hid (z6v B4.out hg5 hbg B4.out.size);have HNL:=Lib.hid hnl;clear ho5 hg5 S2 hnl;go_wp2_with fail;go_ret;refine ⟨_,nx,?_,O5.out,N2.out,N3.out,B5.out⟩;rw [HNL.out]
        rfl
end Tr
end Go.Proofs.YtaapnkoooofalaaGreat
