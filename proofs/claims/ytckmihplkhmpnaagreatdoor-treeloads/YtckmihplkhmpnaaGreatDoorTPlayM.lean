import Derived.Test.YtckmihplkhmpnaaGreatDoorTOne
import Derived.Test.YtckmihplkhmpnaaGreatDoorTMakeC
import Derived.Test.YtckmihplkhmpnaaGreatDoorTDrop
import Derived.Test.YtckmihplkhmpnaaGreatDoorTMalX
import Derived.Test.YtckmihplkhmpnaaGreatDoorTPlay3
namespace Go.Proofs.YtckmihplkhmpnaaGreatDoor
open Go.RowKit Go.Maps Go.WideShapes
set_option linter.unusedVariables false
set_option linter.unusedSimpArgs false
structure ReqE (w:World) (base rb mb n:Nat) (s st:Int) (chV:Value) (cn:Nat) (cs:List Value) (R:ResT) (T:List Nd) (ch:List ChT) (ka:Option Addr) (kn kc:Nat) (w':World):Prop where
 kids:w'.ownsRow w.heap.size 9 1 (.slice ka kn kc) R.kids.length (R.kids.map Value.string)
 req:∃ n' D' chV',n'≤n+2∧Rep D' T∧ReqAt w' base rb mb n' D' s st chV' (cn+ch.length) (cs ++ chCs ch)∧(chV'.ownBlock=chV.ownBlock∨∃ g,chV'.ownBlock=some g∧w.heap.size≤g)
 chg:Chg w w' (fun k=>k=rb∨k=mb∨chV.ownBlock=some k)
abbrev ReqE.V (R:ResT) (ka:Option Addr) (kn kc:Nat):Value:=resV R.p R.d R.v R.m R.c R.o (.slice ka kn kc)
theorem ReqE.err {w w':World} {base rb mb n:Nat} {D:DataW Value} {T:List Nd} {s st:Int} {chV:Value} {cn:Nat} {cs:List Value} (hR:ReqAt w base rb mb n D s st chV cn cs) (hr:Rep D T) (hb:Below w.heap.size w w'):ReqE w base rb mb n s st chV cn cs zr T [] none 0 0 w' :=
 ⟨World.ownsRow_nil _ _ _ _,⟨n,D,chV,by omega,hr,by simpa [chCs] using hR.below hb,.inl rfl⟩,Chg.of_below hb _⟩
theorem ReqE.fin {w W w2:World} {base rb mb n zb:Nat} {s st:Int} {chV:Value} {cn:Nat} {cs:List Value} {R:ResT} {T:List Nd} {ch:List ChT} {ka:Option Addr} {kn kc:Nat} {cs0:Array Value} {x0 x1 x2 x3 x4 x5 x6:Value} (h:ReqE W base rb mb n s st chV cn cs R T ch ka kn kc w2) (hW:Below w.heap.size w W) (hz:w2.heap[zb]? = some (.cells cs0 103 (0,0))) (hzb:w.heap.size≤zb) (hrb:rb<w.heap.size) (hmb:mb<w.heap.size) :
  ReqE w base rb mb n s st chV cn cs R T ch ka kn kc (put_7 w2 zb x0 x1 x2 x3 x4 x5 x6):=by
 have hk:(put_7 w2 zb x0 x1 x2 x3 x4 x5 x6).ownsRow W.heap.size 9 1 (.slice ka kn kc) R.kids.length (R.kids.map Value.string):=owns_chg h.kids putC_7 (fun j hj e=>by
  have e':j=zb:=e
  subst e'
  obtain ⟨cur,hcur⟩:=owns_kind h.kids hj
  rw [hz] at hcur
  simp at hcur)
 obtain ⟨n',D',chV',hn,hr,hR,hc⟩:=h.req
 refine ⟨⟨hk.1,hk.2.imp id (fun ⟨g,cap,cur,h1,h2,r⟩=>⟨g,cap,cur,h1,Nat.le_trans hW.size h2,r⟩)⟩,⟨n',D',chV',hn,hr,hR.chg putC_7 (by omega) (by omega) (fun k hkb e=>by
  have e':k=zb:=e
  subst e'
  obtain ⟨cur,hcur⟩:=owns_kind hR.row hkb
  rw [hz] at hcur
  simp at hcur),hc.imp id (fun ⟨g,h1,h2⟩=>⟨g,h1,Nat.le_trans hW.size h2⟩)⟩,?_⟩
 exact (((Chg.of_below hW _).trans (h.chg.mono (S':=fun k=>(k=rb∨k=mb∨chV.ownBlock=some k)∨k=zb) (fun _ _ h=>.inl h))).trans (putC_7.mono (fun _ _ h=>.inr h))).mono (fun k hk h=>h.elim id (fun e=>absurd hk (by omega)))
theorem Rep.make {D:DataW Value} {T:List Nd} (h:Rep D T) {u u' n:Nd} (hu:u∈T) (hp:u'.p=u.p) (hn:∀ x∈T,x.p≠n.p):Rep ((D.put (ky u'.p) (.held u'.V)).put (ky n.p) (.held n.V)) (ins n (upd T u')):=by
 have h1:=(h.put u').perm (upd_perm h.nd ⟨u,hu,hp.symm⟩)
 have h2:=h1.put n
 have e:(upd T u').filter (fun x=>decide (x.p≠n.p))=upd T u':=List.filter_eq_self.2 (fun x hx=>by
  have hm:x.p∈(upd T u').map Nd.p:=List.mem_map_of_mem hx
  rw [upd_map] at hm
  obtain ⟨z,hz,e⟩:=List.mem_map.1 hm
  have:=hn z hz
  rw [e] at this
  simpa using this)
 rw [e] at h2
 exact h2.perm (ins_perm n _)
theorem Rep.set {D:DataW Value} {T:List Nd} (h:Rep D T) {u y:Nd} (hu:u∈T) (hp:y.p=u.p):Rep (D.put (ky y.p) (.held y.V)) (upd T y):=(h.put y).perm (upd_perm h.nd ⟨u,hu,hp.symm⟩)
theorem mal_ok1 {s:Int} {p d:ByteArray} {f:Int} (h:malC s 1 p d f=0):(0≤f∧f≤3)∧(parse p).1=0∧(2≤f→(lastN p).size≤11)∧p≠⟨#[47]⟩∧d.size≤64:=by
 unfold malC at h
 split at h
 · cases h
 split at h
 · cases h
 split at h
 · cases h
 split at h
 · cases h
 split at h
 · cases h
 split at h
 · cases h
 rename_i h1 h2 h3 h4 h5 h6
 refine ⟨?_,?_,fun hf=>?_,?_,?_⟩
 · by_cases hf:0≤f∧f≤3
   · exact hf
   · exact absurd ⟨rfl,hf⟩ h2
 · by_cases hp:(parse p).1=0
   · exact hp
   · exact absurd (.inl hp) h3
 · by_cases hl:11<(lastN p).size
   · exact absurd (.inr ⟨⟨rfl,hf⟩,hl⟩) h3
   · omega
 · exact fun e=>h4 ⟨.inl rfl,e⟩
 · by_cases hd:64<d.size
   · exact absurd ⟨.inl rfl,hd⟩ h6
   · omega
theorem names_of {p:ByteArray} (hp:(parse p).1=0) (hr:p≠⟨#[47]⟩):∃ xs k x,parse p=(0,xs)∧xs.length=k+1∧xs[k]? = some x∧lastN p=x:=by
 obtain ⟨c,xs,h⟩:∃ c xs,parse p=(c,xs):=⟨_,_,rfl⟩
 rw [h] at hp
 obtain rfl:c=0:=hp
 rcases List.eq_nil_or_concat xs with rfl | ⟨ys,x,e⟩
 · have:=parse_back h
   rw [placeB,if_pos rfl] at this
   exact absurd this.symm hr
 · rw [List.concat_eq_append] at e
   subst e
   exact ⟨_,ys.length,x,h,by simp,by simp,by unfold lastN;rw [h];simp⟩
theorem par_size {p:ByteArray} (hp:(parse p).1=0):(parB p).size≤102:=by
 unfold parB
 obtain ⟨c,xs,h⟩:∃ c xs,parse p=(c,xs):=⟨_,_,rfl⟩
 rw [h]
 have hl:=parse_len h
 cases xs with
 | nil=>show (0:Nat)≤102;omega
 | cons x r =>
   refine place_size ?_ (all_take hl.2 _)
   have h1:=hl.1
   show ((x :: r).take ((x :: r).length - 1)).length≤6
   rw [List.length_take]
   exact Nat.le_trans (Nat.min_le_right _ _) h1
end Go.Proofs.YtckmihplkhmpnaaGreatDoor
namespace Go.Proofs.YtckmihplkhmpnaaGreatDoor
open Go.RowKit Go.Maps Go.WideShapes
set_option linter.unusedVariables false
set_option linter.unusedSimpArgs false
theorem make_any (base rb mb n:Nat) (D:DataW Value) (T:List Nd) (s st:Int) (chV:Value) (cn:Nat) (cs:List Value) (o:OpT) (w:World) (hg:GroundT w) (hgc:GroundC w)
  (hR:ReqAt w base rb mb n D s st chV cn cs) (hr:Rep D T) (hi:Inv T) (hk:o.k=1) (hm:malC s o.k o.p o.d o.f=0) (hn:n≤9000) (hcn:cn≤900) :
  Calls Tryz.prog 62 #[.pointer (some ⟨rb,0,none⟩),opV o.k o.p o.d o.v o.f] w fun e w'=>∃ ka kn kc,e=.returned (.tuple #[ReqE.V (makeM T s st o).2.2.1 ka kn kc,.int .i64 (makeM T s st o).1])∧ReqE w base rb mb n s st chV cn cs (makeM T s st o).2.2.1 (makeM T s st o).2.1 (makeM T s st o).2.2.2 ka kn kc w':=by
 obtain ⟨k,p,d,v,f⟩:=o
 obtain rfl:k=1:=hk
 have hm':malC s 1 p d f=0:=hm
 obtain ⟨hf,hp0,hlast,hroot,hd⟩:=mal_ok1 hm'
 clear hm hm'
 have hps:=size_of_parse hp0
 have hpar:=par_size hp0
 have err:∀ c w',Below w.heap.size w w'→∃ ka kn kc,Ending.returned (.tuple #[noRes,.int .i64 c])=.returned (.tuple #[ReqE.V zr ka kn kc,.int .i64 c])∧ReqE w base rb mb n s st chV cn cs zr T [] ka kn kc w':=fun c w' hb=>⟨none,0,0,rfl,ReqE.err hR hr hb⟩
 show Calls _ _ #[_,opV 1 p d v f] w _
 unfold makeM
 dsimp only
 cases hfu:fnd T (parB p) with
 | none =>
   dsimp only
   refine Calls.mono (make_40 base rb mb n D s st chV cn cs p d v f ⟨#[]⟩ ⟨#[]⟩ 0 0 0 0 0 w hg hR (hr.look_none hfu) (by rw [hr.has_fnd,hfu];rfl) (by omega) (by omega) (by decide) (by decide) (by omega) (by omega) (by omega)) ?_
   rintro e w' ⟨rfl,hb⟩
   exact err 40 w' hb
 | some u =>
   dsimp only
   have hu:=fnd_some hfu
   have hun:=hi.nd u hu.1
   have hup:=size_of_parse hun.1
   have hlk:=hr.look_fnd hfu
   have hhas:Maps.has D (ky (parB p))=true:=by rw [hr.has_fnd,hfu];rfl
   by_cases ho:u.o=0
   · rw [if_neg (by simpa using ho)]
     have hlk0:look D (parB p)=fuV u.p u.d u.v u.m u.c 0 u.k:=by rw [hlk,← ho]
     by_cases hfull:2≤f∧99999<u.k
     · rw [if_pos hfull]
       refine Calls.mono (make_46c base rb mb n D s st chV cn cs p d v f u.p u.d u.v u.m u.c u.k w hg hR hlk0 hhas hf hfull.1 hfull.2 (by omega) (by omega) (by omega) (by omega) (by omega) (by omega) (by omega)) ?_
       rintro e w' ⟨rfl,hb⟩
       exact err 46 w' hb
     · rw [if_neg hfull]
       have hcnt:(f<2∧atOf p f u.k=p∧(if 2≤f then u.k+1 else u.k)=u.k)∨(2≤f∧u.k≤99999∧-1000≤u.k∧(if 2≤f then u.k+1 else u.k)=u.k+1∧∀ W,Below w.heap.size w W→Calls Tryz.prog 88 #[.string p,.int .i64 u.k] W fun e w'=>e=.returned (.tuple #[.string (atOf p f u.k),.int .i64 0])∧Below W.heap.size W w'):=by
        by_cases h2:2≤f
        · refine .inr ⟨h2,by omega,by omega,by rw [if_pos h2],fun W hb=>?_⟩
          obtain ⟨xs,k,x,hx,hxl,hxk,hlx⟩:=names_of hp0 hroot
          have h9:=counted_good (n:=u.k.toNat) (by omega) hx k hxl x hxk (by rw [← hlx];exact hlast h2) W (hgc.below hb)
          rw [show ((u.k.toNat:Nat):Int)=u.k by omega] at h9
          unfold atOf
          rw [if_pos h2]
          exact h9
        · refine .inl ⟨by omega,?_,by rw [if_neg h2]⟩
          unfold atOf
          rw [if_neg h2]
       have hap:(parse (atOf p f u.k)).1=0:=by
        unfold atOf
        split
        · rename_i h2
          obtain ⟨xs,k,x,hx,hxl,hxk,hlx⟩:=names_of hp0 hroot
          rw [counted_parse hx k hxl x hxk (by rw [← hlx];exact hlast h2)]
        · exact hp0
       have has:=size_of_parse hap
       obtain ⟨a,ha⟩:∃ a,atOf p f u.k=a:=⟨_,rfl⟩
       rw [ha] at hcnt has ⊢
       obtain ⟨pk',hpk'⟩:∃ pk',(if 2≤f then u.k+1 else u.k)=pk':=⟨_,rfl⟩
       rw [hpk'] at hcnt ⊢
       cases hfa:fnd T a with
       | some y =>
         rw [if_pos (show (some y).isSome=true from rfl)]
         refine Calls.mono (make_41 base rb mb n D s st chV cn cs p d a v f u.p u.d u.v u.m u.c u.k pk' 0 w hg hR hlk0 hhas hf hcnt y.p y.d y.v y.m y.c y.o y.k (hr.look_fnd hfa) (by rw [hr.has_fnd,hfa];rfl) (by omega) (by omega) (by omega) (by omega) (by omega) (by omega) (by omega) (by omega)) ?_
         rintro e w' ⟨rfl,hb⟩
         exact err 41 w' hb
       | none =>
         rw [if_neg (show ¬ (none:Option Nd).isSome=true by simp)]
         have hah:Maps.has D (ky a)=false:=by rw [hr.has_fnd,hfa];rfl
         by_cases hlen:64≤T.length
         · rw [if_pos hlen]
           refine Calls.mono (make_46 base rb mb n D s st chV cn cs p d a v f u.p u.d u.v u.m u.c u.k pk' 0 w hg hR hlk0 hhas hf hcnt ⟨#[]⟩ ⟨#[]⟩ 0 0 0 0 0 (hr.look_none hfa) hah (by rw [hr.size];exact hlen) (by omega) (by omega) (by omega) (by omega) (by omega) (by omega) (by omega) (by omega)) ?_
           rintro e w' ⟨rfl,hb⟩
           exact err 46 w' hb
         · rw [if_neg hlen]
           have hbo:(f % 2=0∧(if f % 2=1 then s else 0)=0)∨(f % 2=1∧(if f % 2=1 then s else 0)=s):=by
            by_cases h1:f % 2=1
            · exact .inr ⟨h1,by rw [if_pos h1]⟩
            · exact .inl ⟨by omega,by rw [if_neg h1]⟩
           obtain ⟨ow,how⟩:∃ ow,(if f % 2=1 then s else 0)=ow:=⟨_,rfl⟩
           rw [how] at hbo ⊢
           refine Calls.mono (make_ok base rb mb n D s st chV cn cs p d a v f u.p u.d u.v u.m u.c u.k pk' ow w hg hR hlk0 hhas hf hcnt hbo ⟨#[]⟩ ⟨#[]⟩ 0 0 0 0 0 (hr.look_none hfa) hah (by rw [hr.size];omega) (by omega) (by omega) (by omega) (by omega) (by omega) (by omega) (by omega) (by omega)) ?_
           rintro e w' ⟨rfl,chV',hR',hc',hC'⟩
           have e1:fuV u.p u.d u.v u.m u.c 0 pk'=(⟨u.p,u.d,u.v,u.m,u.c,u.o,pk'⟩:Nd).V:=by rw [← ho]
           rw [e1] at hR'
           have hrep:=hr.make (u:=u) (u':=⟨u.p,u.d,u.v,u.m,u.c,u.o,pk'⟩) (n:=⟨a,d,0,st,st,ow,0⟩) hu.1 rfl (fnd_none hfa)
           exact ⟨none,0,0,rfl,World.ownsRow_nil _ _ _ _,⟨n+1+1,_,chV',by omega,hrep,by simpa [chCs] using hR',hc'⟩,hC'⟩
   · rw [if_pos ho]
     refine Calls.mono (make_44 base rb mb n D s st chV cn cs p d v f u.p u.d u.v u.m u.c u.o u.k w hg hR hlk hhas ho (by omega) (by omega) (by omega) (by omega) (by omega) (by omega) (by omega)) ?_
     rintro e w' ⟨rfl,hb⟩
     exact err 44 w' hb
end Go.Proofs.YtckmihplkhmpnaaGreatDoor
namespace Go.Proofs.YtckmihplkhmpnaaGreatDoor
open Go.RowKit Go.Maps Go.WideShapes
set_option linter.unusedVariables false
set_option linter.unusedSimpArgs false
attribute [local go_sem ↓] Go.wp_at_zero Go.wp_at_succ
def OpT.Ok (o:OpT):Prop:=-9223372036854775808≤o.f∧o.f<9223372036854775808
theorem mal_all (o:OpT) (ho:o.Ok) (rb:Nat) (s:Int) (w:World) (hg:GroundT w) (hr:w.cell? ⟨rb,0,none⟩=some (.int .i64 s)) (hrl:rb<w.heap.size) :
  Calls Tryz.prog 61 #[.pointer (some ⟨rb,0,none⟩),opV o.k o.p o.d o.v o.f] w fun e w'=>e=.returned (.int .i64 (malC s o.k o.p o.d o.f))∧Below w.heap.size w w':=by
 by_cases hk:o.k<1∨7<o.k
 · have e:malC s o.k o.p o.d o.f=48:=by unfold malC;rw [if_pos hk]
   rw [e]
   exact mal_out hk rb s o.p o.d o.v o.f w
 · by_cases hf:o.k=1∧¬ (0≤o.f∧o.f≤3)
   · have e:malC s o.k o.p o.d o.f=48:=by unfold malC;rw [if_neg hk,if_pos hf]
     rw [e,hf.1]
     exact mal_flag rb s o.p o.d o.v o.f ho.1 ho.2 hf.2 w hg
   · exact mal_any (by omega) (by omega) rb s o.p o.d o.v o.f (fun h=>Classical.byContradiction fun h'=>hf ⟨h,h'⟩) w hg hr hrl
abbrev PlayEnd (w:World) (base rb mb n:Nat) (s st:Int) (chV:Value) (cn:Nat) (cs:List Value) (M:Int × List Nd × ResT × List ChT) (e:Ending) (w':World):Prop:=∃ ka kn kc,e=.returned (.tuple #[ReqE.V M.2.2.1 ka kn kc,.int .i64 M.1])∧ReqE w base rb mb n s st chV cn cs M.2.2.1 M.2.1 M.2.2.2 ka kn kc w'
set_option maxHeartbeats 16000000 in
set_option maxRecDepth 100000 in
theorem play_bad (base rb mb n:Nat) (D:DataW Value) (s st:Int) (chV:Value) (cn:Nat) (cs:List Value) (k:Int) (p d:ByteArray) (v f:Int) (w:World) (hg:GroundT w) (hR:ReqAt w base rb mb n D s st chV cn cs) (c:Int) (hc0:c≠0)
  (hM:∀ W,GroundT W→W.cell? ⟨rb,0,none⟩=some (.int .i64 s)→rb<W.heap.size→Calls Tryz.prog 61 #[.pointer (some ⟨rb,0,none⟩),opV k p d v f] W fun e w'=>e=.returned (.int .i64 c)∧Below W.heap.size W w') :
  Calls Tryz.prog 43 #[.pointer (some ⟨rb,0,none⟩),opV k p d v f] w fun e w'=>e=.returned (.tuple #[noRes,.int .i64 c])∧Below w.heap.size w w':=by
 have HM:Hid _:=hM
 have HR:Hid _:=hR
 have HG:Hid _:=hg
 have hcb:(c==0)=false:=by simp [hc0]
 have hcn:(c != 0)=true:=by simp [hc0]
 clear hR hg hM
 go_enter Tryz.func43,Tryz.ntmps43
 have HW0:Hid (Below w.heap.size w ((w.alloc (.cells #[.int .i64 k,.string p,.string d,.int .i64 v,.int .i64 f] 66)).alloc (.cells #[.string ⟨#[]⟩,.string ⟨#[]⟩,.int .i64 0,.int .i64 0,.int .i64 0,.int .i64 0,.slice none 0 0] 103))):=((Below.refl _ _).alloc (Nat.le_refl _) _).alloc (by simp) _
 have HR0:Hid _:=HR.out.below HW0.out
 go_wp2_with fail
 refine (HM.out _ (HG.out.below HW0.out) (cells_4 HR0.out.box).1 HR0.out.lt.1).mono ?_
 rintro e w1 ⟨rfl,hb1⟩
 have HB1:Hid (Below w.heap.size w w1):=trans2 HW0.out hb1
 have HZ1:Hid (w1.heap[w.heap.size+1]? = some (.cells #[.string ⟨#[]⟩,.string ⟨#[]⟩,.int .i64 0,.int .i64 0,.int .i64 0,.int .i64 0,.slice none 0 0] 103 (0,0))):=kept_block hb1 (heap_alloc2_new _ _ _)
 obtain ⟨b0,b1,b2,b3,b4,b5,b6⟩:=cells_7 HZ1.out
 have hfz:=free_7 HZ1.out
 clear hb1
 go_wp2
 exact bodyPost_ret (results_cell_tmp rfl _ _ (w.heap.size+1) 103 _ (0,0) _ (.int .i64 c) rfl rfl (fill_7 HZ1.out) Tryz.underlying103 rfl (by kernel_rfl)) rfl ⟨rfl,fillB_7 HB1.out (by omega)⟩
theorem ReqE.box {w W w2:World} {base rb mb n zb:Nat} {s st:Int} {chV:Value} {cn n0:Nat} {D:DataW Value} {cs:List Value} {R:ResT} {T:List Nd} {ch:List ChT} {ka:Option Addr} {kn kc:Nat} {cs0:Array Value} {t:TypeId} (h:ReqE W base rb mb n s st chV cn cs R T ch ka kn kc w2) (hR:ReqAt W base rb mb n0 D s st chV cn cs) (hz:W.heap[zb]? = some (.cells cs0 t (0,0))) (ht:t≠69) (h1:zb≠rb) (h2:zb≠mb):w2.heap[zb]? = some (.cells cs0 t (0,0)) :=
 kept_chg h.chg hz (fun e=>by
  rcases e with e | e | e
  · exact h1 e
  · exact h2 e
  · obtain ⟨cur,hcur⟩:=owns_kind hR.row e
    rw [hz] at hcur
    simp at hcur
    exact ht hcur.2)
set_option maxHeartbeats 16000000 in
set_option maxRecDepth 100000 in
theorem play_mk (base rb mb n:Nat) (D:DataW Value) (s st:Int) (chV:Value) (cn:Nat) (cs:List Value) (p d:ByteArray) (v f:Int) (w:World) (hg:GroundT w) (hR:ReqAt w base rb mb n D s st chV cn cs) (M:Int × List Nd × ResT × List ChT)
  (hM:∀ W,GroundT W→W.cell? ⟨rb,0,none⟩=some (.int .i64 s)→rb<W.heap.size→Calls Tryz.prog 61 #[.pointer (some ⟨rb,0,none⟩),opV 1 p d v f] W fun e w'=>e=.returned (.int .i64 0)∧Below W.heap.size W w')
  (hK:∀ W,Below w.heap.size w W→Calls Tryz.prog 62 #[.pointer (some ⟨rb,0,none⟩),opV 1 p d v f] W (PlayEnd W base rb mb n s st chV cn cs M)) :
  Calls Tryz.prog 43 #[.pointer (some ⟨rb,0,none⟩),opV 1 p d v f] w (PlayEnd w base rb mb n s st chV cn cs M):=by
 have HM:Hid _:=hM
 have HK:Hid _:=hK
 have HR:Hid _:=hR
 have HG:Hid _:=hg
 obtain ⟨mc,MT,⟨mp,md,mv,mm,mmc,mo,mkids⟩,Mch⟩:=M
 clear hR hg hM hK
 go_enter Tryz.func43,Tryz.ntmps43
 have HW0:Hid (Below w.heap.size w ((w.alloc (.cells #[.int .i64 1,.string p,.string d,.int .i64 v,.int .i64 f] 66)).alloc (.cells #[.string ⟨#[]⟩,.string ⟨#[]⟩,.int .i64 0,.int .i64 0,.int .i64 0,.int .i64 0,.slice none 0 0] 103))):=((Below.refl _ _).alloc (Nat.le_refl _) _).alloc (by simp) _
 have HR0:Hid _:=HR.out.below HW0.out
 go_wp2_with fail
 refine (HM.out _ (HG.out.below HW0.out) (cells_4 HR0.out.box).1 HR0.out.lt.1).mono ?_
 rintro e w1 ⟨rfl,hb1⟩
 have HB1:Hid (Below w.heap.size w w1):=trans2 HW0.out hb1
 have HO1:Hid (w1.heap[w.heap.size]? = some (.cells #[.int .i64 1,.string p,.string d,.int .i64 v,.int .i64 f] 66 (0,0))):=kept_block hb1 (heap_alloc2_old _ _ _)
 have HZ1:Hid (w1.heap[w.heap.size+1]? = some (.cells #[.string ⟨#[]⟩,.string ⟨#[]⟩,.int .i64 0,.int .i64 0,.int .i64 0,.int .i64 0,.slice none 0 0] 103 (0,0))):=kept_block hb1 (heap_alloc2_new _ _ _)
 have HR1:Hid _:=HR0.out.below hb1
 have HG1:Hid _:=HG.out.below HB1.out
 obtain ⟨o0,o1,o2,o3,o4⟩:=cells_5 HO1.out
 have n1:=HG1.out.need 1 0 true rfl
 simp only [Nat.reduceMul,Nat.reduceAdd] at n1
 clear hb1
 go_wp2_with fail
 refine (HK.out _ HB1.out).mono ?_
 rintro e w2 ⟨ka,kn,kc,rfl,hE⟩
 have HE:Hid _:=hE
 have hrb:=HR.out.lt
 have hs1:=HB1.out.size
 have HZ2:Hid _:=hE.box (w:=w) HR1.out HZ1.out (by decide) (by omega) (by omega)
 obtain ⟨b0,b1,b2,b3,b4,b5,b6⟩:=cells_7 HZ2.out
 have hfz:=free_7 HZ2.out
 clear hE o0 o1 o2 o3 o4 n1
 go_wp2_with fail
 exact bodyPost_ret (results_cell_tmp rfl _ _ (w.heap.size+1) 103 _ (0,0) _ (.int .i64 mc) rfl rfl (fill_7 HZ2.out) Tryz.underlying103 rfl (by kernel_rfl)) rfl ⟨ka,kn,kc,rfl,HE.out.fin HB1.out HZ2.out (by omega) hrb.1 hrb.2⟩
end Go.Proofs.YtckmihplkhmpnaaGreatDoor
namespace Go.Proofs.YtckmihplkhmpnaaGreatDoor
open Go.RowKit Go.Maps Go.WideShapes
set_option linter.unusedVariables false
set_option linter.unusedSimpArgs false
attribute [local go_sem ↓] Go.wp_at_zero Go.wp_at_succ
theorem look_run {W:World} {mb n:Nat} {D:DataW Value} {p:ByteArray} (h:MapAt W mb n D) (hp:p.size≤1000):(Instr.lookup 52 (.map (some mb)) (.string p) true).run Tryz.prog W=.ok (.tuple #[look D p,.bool (Maps.has D (ky p))]) W:=by
 obtain ⟨v,ps,hrun,hv⟩:=h.look_ok keyed Tryz.underlying52 (zeroF W) (zd:=.held zf) (zp:=[]) rfl (WideMaps.keyOf_string_mk Tryz.underlying9 (s:=p) (by unfold maxLen;omega))
 rw [hrun,look_of hv]
set_option maxHeartbeats 16000000 in
set_option maxRecDepth 100000 in
theorem play_40 {k:Int} (hk2:2≤k) (hk7:k≤7) (base rb mb n:Nat) (D:DataW Value) (s st:Int) (chV:Value) (cn:Nat) (cs:List Value) (p d:ByteArray) (v f:Int) (w:World) (hg:GroundT w) (hR:ReqAt w base rb mb n D s st chV cn cs) (hp:p.size≤1000) (hl:look D p=zf) (hh:Maps.has D (ky p)=false)
  (hM:∀ W,GroundT W→W.cell? ⟨rb,0,none⟩=some (.int .i64 s)→rb<W.heap.size→Calls Tryz.prog 61 #[.pointer (some ⟨rb,0,none⟩),opV k p d v f] W fun e w'=>e=.returned (.int .i64 0)∧Below W.heap.size W w') :
  Calls Tryz.prog 43 #[.pointer (some ⟨rb,0,none⟩),opV k p d v f] w fun e w'=>e=.returned (.tuple #[noRes,.int .i64 40])∧Below w.heap.size w w':=by
 have HM:Hid _:=hM
 have HR:Hid _:=hR
 have HG:Hid _:=hg
 have HLK:Hid (∀ W,Below w.heap.size w W→(Instr.lookup 52 (.map (some mb)) (.string p) true).run Tryz.prog W=.ok (.tuple #[fuV ByteArray.empty ByteArray.empty 0 0 0 0 0,.bool false]) W):=fun W hb=>by
  have:=look_run (hR.below hb).map hp
  rw [hl,hh] at this
  exact this
 obtain ⟨kk,hkk⟩:∃ kk:Nat,k=kk∧2≤kk∧kk≤7:=⟨k.toNat,by omega,by omega,by omega⟩
 obtain ⟨rfl,hkk2,hkk7⟩:=hkk
 clear hR hg hM hl hh hk2 hk7
 go_enter Tryz.func43,Tryz.ntmps43
 have HW0:Hid (Below w.heap.size w ((w.alloc (.cells #[.int .i64 kk,.string p,.string d,.int .i64 v,.int .i64 f] 66)).alloc (.cells #[.string ⟨#[]⟩,.string ⟨#[]⟩,.int .i64 0,.int .i64 0,.int .i64 0,.int .i64 0,.slice none 0 0] 103))):=((Below.refl _ _).alloc (Nat.le_refl _) _).alloc (by simp) _
 have HR0:Hid _:=HR.out.below HW0.out
 go_wp2_with fail
 refine (HM.out _ (HG.out.below HW0.out) (cells_4 HR0.out.box).1 HR0.out.lt.1).mono ?_
 rintro e w1 ⟨rfl,hb1⟩
 have HB1:Hid (Below w.heap.size w w1):=trans2 HW0.out hb1
 have HO1:Hid (w1.heap[w.heap.size]? = some (.cells #[.int .i64 kk,.string p,.string d,.int .i64 v,.int .i64 f] 66 (0,0))):=kept_block hb1 (heap_alloc2_old _ _ _)
 have HZ1:Hid (w1.heap[w.heap.size+1]? = some (.cells #[.string ⟨#[]⟩,.string ⟨#[]⟩,.int .i64 0,.int .i64 0,.int .i64 0,.int .i64 0,.slice none 0 0] 103 (0,0))):=kept_block hb1 (heap_alloc2_new _ _ _)
 have HR1:Hid _:=HR0.out.below hb1
 have HG1:Hid _:=HG.out.below HB1.out
 obtain ⟨o0,o1,o2,o3,o4⟩:=cells_5 HO1.out
 have n1:w1.cell? ⟨0,kk * 6,none⟩=some (.bool false):=by
  have h9:=HG1.out.need kk 0 false (by
   rcases (show kk=2∨kk=3∨kk=4∨kk=5∨kk=6∨kk=7 by omega) with rfl | rfl | rfl | rfl | rfl | rfl <;> rfl)
  rw [Nat.add_zero,Nat.mul_comm] at h9
  exact h9
 have hk8:(kk:Int)<8:=by omega
 clear hb1
 go_upto_region 6 with fail
 have HSS:Hid (∀ W,Below w1.heap.size w1 W→W.cell? ⟨rb,2,none⟩=some (.map (some mb))∧W.cell? ⟨w.heap.size,1,none⟩=some (.string p)∧(Instr.lookup 52 (.map (some mb)) (.string p) true).run Tryz.prog W=.ok (.tuple #[fuV ByteArray.empty ByteArray.empty 0 0 0 0 0,.bool false]) W):=fun W hb=>⟨(cells_4 (HR1.out.below hb).box).2.2.1,(cells_5 (kept_block hb HO1.out)).2.1,HLK.out W (trans2 HB1.out hb)⟩
 have hrl1:=HR1.out.lt.1
 have hol1:=(Array.getElem?_eq_some_iff.1 HO1.out).1
 have hzl1:=(Array.getElem?_eq_some_iff.1 HZ1.out).1
 clear o0 o1 o2 o3 o4 n1
 go_cut [7,8] from 10 (fun s7 s8 wc=>s7=.pointer (some ⟨w1.heap.size,0,none⟩)∧s8=.bool false∧Hid (Below w1.heap.size w1 wc)∧Hid (wc.heap[w1.heap.size]? = some (.cells #[.string ByteArray.empty,.string ByteArray.empty,.int .i64 0,.int .i64 0,.int .i64 0,.int .i64 0,.int .i64 0] 27 (0,0))))
 case first =>
  go_region_held3 (fun w'=>w'.cell? ⟨rb,2,none⟩=some (.map (some mb))∧w'.cell? ⟨w.heap.size,1,none⟩=some (.string p)∧(Instr.lookup 52 (.map (some mb)) (.string p) true).run Tryz.prog w'=.ok (.tuple #[fuV ByteArray.empty ByteArray.empty 0 0 0 0 0,.bool false]) w') (first
    | exact HSS.out _ (below_drew (Below.refl _ _))
    | exact HSS.out _ ((below_drew (Below.refl _ _)).alloc (by simp) _)
    | exact HSS.out _ (fillB_7 ((below_drew (Below.refl _ _)).alloc (by simp) _) (by simp))) (fail)
  all_goals (
   go_wp2_with fail
   go_meet
   case rel=>first | exact ⟨rfl,rfl,below_drew ((Below.refl _ _).alloc (Nat.le_refl _) _),heap_alloc_new _ _⟩ | exact ⟨rfl,rfl,fillB_7 ((below_drew (Below.refl _ _)).alloc (by simp) _) (by simp),fill_7 (heap_alloc_new _ _)⟩)
 case rest =>
 obtain ⟨rfl,rfl,HBc,HFc⟩:=hcut
 obtain ⟨nb,hnb⟩:∃ nb,w1.heap.size=nb:=⟨_,rfl⟩
 have HB2:Hid (Below w.heap.size w wc):=trans2 HB1.out HBc.out
 have HO2:Hid _:=kept_block HBc.out HO1.out
 have HZ2:Hid _:=kept_block HBc.out HZ1.out
 have HR2:Hid _:=HR1.out.below HBc.out
 have HG2:Hid _:=HG1.out.below HBc.out
 have hnbo:w.heap.size+1<nb:=by omega
 have hnbr:rb<nb:=by omega
 rw [hnb] at HFc ⊢
 clear hnb HSS HLK
 obtain ⟨b0,b1,b2,b3,b4,b5,b6⟩:=cells_7 HZ2.out
 have hfz:=free_7 HZ2.out
 go_wp2_with fail
 exact bodyPost_ret (results_cell_tmp rfl _ _ (w.heap.size+1) 103 _ (0,0) _ (.int .i64 40) rfl rfl (fill_7 HZ2.out) Tryz.underlying103 rfl (by kernel_rfl)) rfl ⟨rfl,fillB_7 HB2.out (by omega)⟩
set_option maxHeartbeats 16000000 in
set_option maxRecDepth 100000 in
theorem play_mis {k:Int} (hk2:2≤k) (hk7:k≤7) (base rb mb n:Nat) (D:DataW Value) (s st:Int) (chV:Value) (cn:Nat) (cs:List Value) (p d:ByteArray) (v f:Int) (w:World) (hg:GroundT w) (hR:ReqAt w base rb mb n D s st chV cn cs) (hp:p.size≤1000) (np nd:ByteArray) (nv nm nc no nk:Int)  (hl:look D p=fuV np nd nv nm nc no nk) (hh:Maps.has D (ky p)=true) (c:Int)
  (hF:∀ W,Below w.heap.size w W→Calls Tryz.prog 63 #[.pointer (some ⟨rb,0,none⟩),opV k p d v f,fuV np nd nv nm nc no nk] W fun e w'=>e=.returned (.int .i64 c)∧Below W.heap.size W w') (hc:c≠0)
  (hM:∀ W,GroundT W→W.cell? ⟨rb,0,none⟩=some (.int .i64 s)→rb<W.heap.size→Calls Tryz.prog 61 #[.pointer (some ⟨rb,0,none⟩),opV k p d v f] W fun e w'=>e=.returned (.int .i64 0)∧Below W.heap.size W w') :
  Calls Tryz.prog 43 #[.pointer (some ⟨rb,0,none⟩),opV k p d v f] w fun e w'=>e=.returned (.tuple #[noRes,.int .i64 c])∧Below w.heap.size w w':=by
 have HF:Hid _:=hF
 have hcb:(c==0)=false:=by simp [hc]
 have hcn:(c != 0)=true:=by simp [hc]
 clear hF hc
 have HM:Hid _:=hM
 have HR:Hid _:=hR
 have HG:Hid _:=hg
 have HLK:Hid (∀ W,Below w.heap.size w W→(Instr.lookup 52 (.map (some mb)) (.string p) true).run Tryz.prog W=.ok (.tuple #[fuV np nd nv nm nc no nk,.bool true]) W):=fun W hb=>by
  have:=look_run (hR.below hb).map hp
  rw [hl,hh] at this
  exact this
 obtain ⟨kk,hkk⟩:∃ kk:Nat,k=kk∧2≤kk∧kk≤7:=⟨k.toNat,by omega,by omega,by omega⟩
 obtain ⟨rfl,hkk2,hkk7⟩:=hkk
 clear hR hg hM hl hh hk2 hk7
 go_enter Tryz.func43,Tryz.ntmps43
 have HW0:Hid (Below w.heap.size w ((w.alloc (.cells #[.int .i64 kk,.string p,.string d,.int .i64 v,.int .i64 f] 66)).alloc (.cells #[.string ⟨#[]⟩,.string ⟨#[]⟩,.int .i64 0,.int .i64 0,.int .i64 0,.int .i64 0,.slice none 0 0] 103))):=((Below.refl _ _).alloc (Nat.le_refl _) _).alloc (by simp) _
 have HR0:Hid _:=HR.out.below HW0.out
 go_wp2_with fail
 refine (HM.out _ (HG.out.below HW0.out) (cells_4 HR0.out.box).1 HR0.out.lt.1).mono ?_
 rintro e w1 ⟨rfl,hb1⟩
 have HB1:Hid (Below w.heap.size w w1):=trans2 HW0.out hb1
 have HO1:Hid (w1.heap[w.heap.size]? = some (.cells #[.int .i64 kk,.string p,.string d,.int .i64 v,.int .i64 f] 66 (0,0))):=kept_block hb1 (heap_alloc2_old _ _ _)
 have HZ1:Hid (w1.heap[w.heap.size+1]? = some (.cells #[.string ⟨#[]⟩,.string ⟨#[]⟩,.int .i64 0,.int .i64 0,.int .i64 0,.int .i64 0,.slice none 0 0] 103 (0,0))):=kept_block hb1 (heap_alloc2_new _ _ _)
 have HR1:Hid _:=HR0.out.below hb1
 have HG1:Hid _:=HG.out.below HB1.out
 obtain ⟨o0,o1,o2,o3,o4⟩:=cells_5 HO1.out
 have n1:w1.cell? ⟨0,kk * 6,none⟩=some (.bool false):=by
  have h9:=HG1.out.need kk 0 false (by
   rcases (show kk=2∨kk=3∨kk=4∨kk=5∨kk=6∨kk=7 by omega) with rfl | rfl | rfl | rfl | rfl | rfl <;> rfl)
  rw [Nat.add_zero,Nat.mul_comm] at h9
  exact h9
 have hk8:(kk:Int)<8:=by omega
 clear hb1
 go_upto_region 6 with fail
 have HSS:Hid (∀ W,Below w1.heap.size w1 W→W.cell? ⟨rb,2,none⟩=some (.map (some mb))∧W.cell? ⟨w.heap.size,1,none⟩=some (.string p)∧(Instr.lookup 52 (.map (some mb)) (.string p) true).run Tryz.prog W=.ok (.tuple #[fuV np nd nv nm nc no nk,.bool true]) W):=fun W hb=>⟨(cells_4 (HR1.out.below hb).box).2.2.1,(cells_5 (kept_block hb HO1.out)).2.1,HLK.out W (trans2 HB1.out hb)⟩
 have hrl1:=HR1.out.lt.1
 have hol1:=(Array.getElem?_eq_some_iff.1 HO1.out).1
 have hzl1:=(Array.getElem?_eq_some_iff.1 HZ1.out).1
 clear o0 o1 o2 o3 o4 n1
 go_cut [7,8] from 10 (fun s7 s8 wc=>s7=.pointer (some ⟨w1.heap.size,0,none⟩)∧s8=.bool true∧Hid (Below w1.heap.size w1 wc)∧Hid (wc.heap[w1.heap.size]? = some (.cells #[.string np,.string nd,.int .i64 nv,.int .i64 nm,.int .i64 nc,.int .i64 no,.int .i64 nk] 27 (0,0))))
 case first =>
  go_region_held3 (fun w'=>w'.cell? ⟨rb,2,none⟩=some (.map (some mb))∧w'.cell? ⟨w.heap.size,1,none⟩=some (.string p)∧(Instr.lookup 52 (.map (some mb)) (.string p) true).run Tryz.prog w'=.ok (.tuple #[fuV np nd nv nm nc no nk,.bool true]) w') (first
    | exact HSS.out _ (below_drew (Below.refl _ _))
    | exact HSS.out _ ((below_drew (Below.refl _ _)).alloc (by simp) _)
    | exact HSS.out _ (fillB_7 ((below_drew (Below.refl _ _)).alloc (by simp) _) (by simp))) (fail)
  all_goals (
   go_wp2_with fail
   go_meet
   case rel=>first | exact ⟨rfl,rfl,below_drew ((Below.refl _ _).alloc (Nat.le_refl _) _),heap_alloc_new _ _⟩ | exact ⟨rfl,rfl,fillB_7 ((below_drew (Below.refl _ _)).alloc (by simp) _) (by simp),fill_7 (heap_alloc_new _ _)⟩)
 case rest =>
 obtain ⟨rfl,rfl,HBc,HFc⟩:=hcut
 obtain ⟨nb,hnb⟩:∃ nb,w1.heap.size=nb:=⟨_,rfl⟩
 have HB2:Hid (Below w.heap.size w wc):=trans2 HB1.out HBc.out
 have HO2:Hid _:=kept_block HBc.out HO1.out
 have HZ2:Hid _:=kept_block HBc.out HZ1.out
 have HR2:Hid _:=HR1.out.below HBc.out
 have HG2:Hid _:=HG1.out.below HBc.out
 have hnbo:w.heap.size+1<nb:=by omega
 have hnbr:rb<nb:=by omega
 rw [hnb] at HFc ⊢
 clear hnb HSS HLK
 obtain ⟨o0,o1,o2,o3,o4⟩:=cells_5 HO2.out
 obtain ⟨a0,a1,a2,a3,a4,a5,a6⟩:=cells_7 HFc.out
 go_wp2_with fail
 refine (HF.out _ HB2.out).mono ?_
 rintro e w3 ⟨rfl,hb3⟩
 have HB3:Hid (Below w.heap.size w w3):=trans2 HB2.out hb3
 have HO3:Hid _:=kept_block hb3 HO2.out
 have HZ3:Hid _:=kept_block hb3 HZ2.out
 have HF3:Hid _:=kept_block hb3 HFc.out
 have HR3:Hid _:=HR2.out.below hb3
 clear hb3 o0 o1 o2 o3 o4 a0 a1 a2 a3 a4 a5 a6
 obtain ⟨b0,b1,b2,b3,b4,b5,b6⟩:=cells_7 HZ3.out
 have hfz:=free_7 HZ3.out
 go_wp2_with fail
 exact bodyPost_ret (results_cell_tmp rfl _ _ (w.heap.size+1) 103 _ (0,0) _ (.int .i64 c) rfl rfl (fill_7 HZ3.out) Tryz.underlying103 rfl (by kernel_rfl)) rfl ⟨rfl,fillB_7 HB3.out (by omega)⟩
end Go.Proofs.YtckmihplkhmpnaaGreatDoor
namespace Go.Proofs.YtckmihplkhmpnaaGreatDoor
open Go.RowKit Go.Maps Go.WideShapes
set_option linter.unusedVariables false
set_option linter.unusedSimpArgs false
attribute [local go_sem ↓] Go.wp_at_zero Go.wp_at_succ
set_option maxHeartbeats 16000000 in
set_option maxRecDepth 100000 in
theorem play_set {k:Int} (hk2:2≤k) (hk7:k≤7) (base rb mb n:Nat) (D:DataW Value) (s st:Int) (chV:Value) (cn:Nat) (cs:List Value) (p d:ByteArray) (v f:Int) (w:World) (hg:GroundT w) (hR:ReqAt w base rb mb n D s st chV cn cs) (hp:p.size≤1000) (hk:k=2) (np nd:ByteArray) (nv nm nc no nk:Int)  (hl:look D p=fuV np nd nv nm nc no nk) (hh:Maps.has D (ky p)=true)
  (hF:∀ W,Below w.heap.size w W→Calls Tryz.prog 63 #[.pointer (some ⟨rb,0,none⟩),opV k p d v f,fuV np nd nv nm nc no nk] W fun e w'=>e=.returned (.int .i64 0)∧Below W.heap.size W w')
  (hM:∀ W,GroundT W→W.cell? ⟨rb,0,none⟩=some (.int .i64 s)→rb<W.heap.size→Calls Tryz.prog 61 #[.pointer (some ⟨rb,0,none⟩),opV k p d v f] W fun e w'=>e=.returned (.int .i64 0)∧Below W.heap.size W w') (M:Int × List Nd × ResT × List ChT) (hM0:M.1=0)
  (hK:∀ W,Below w.heap.size w W→Calls Tryz.prog 64 #[.pointer (some ⟨rb,0,none⟩),fuV np nd nv nm nc no nk,.string d] W fun e w'=>∃ ka kn kc,e=.returned (ReqE.V M.2.2.1 ka kn kc)∧ReqE W base rb mb n s st chV cn cs M.2.2.1 M.2.1 M.2.2.2 ka kn kc w') :
  Calls Tryz.prog 43 #[.pointer (some ⟨rb,0,none⟩),opV k p d v f] w (PlayEnd w base rb mb n s st chV cn cs M):=by
 have HF:Hid _:=hF
 have HK:Hid _:=hK
 obtain ⟨mc,MT,⟨mp,md,mv,mm,mmc,mo,mkids⟩,Mch⟩:=M
 obtain rfl:mc=0:=hM0
 clear hF hK
 have HKE:Hid (k=2):=hk
 clear hk
 have HM:Hid _:=hM
 have HR:Hid _:=hR
 have HG:Hid _:=hg
 have HLK:Hid (∀ W,Below w.heap.size w W→(Instr.lookup 52 (.map (some mb)) (.string p) true).run Tryz.prog W=.ok (.tuple #[fuV np nd nv nm nc no nk,.bool true]) W):=fun W hb=>by
  have:=look_run (hR.below hb).map hp
  rw [hl,hh] at this
  exact this
 obtain ⟨kk,hkk⟩:∃ kk:Nat,k=kk∧2≤kk∧kk≤7:=⟨k.toNat,by omega,by omega,by omega⟩
 obtain ⟨rfl,hkk2,hkk7⟩:=hkk
 clear hR hg hM hl hh hk2 hk7
 go_enter Tryz.func43,Tryz.ntmps43
 have HW0:Hid (Below w.heap.size w ((w.alloc (.cells #[.int .i64 kk,.string p,.string d,.int .i64 v,.int .i64 f] 66)).alloc (.cells #[.string ⟨#[]⟩,.string ⟨#[]⟩,.int .i64 0,.int .i64 0,.int .i64 0,.int .i64 0,.slice none 0 0] 103))):=((Below.refl _ _).alloc (Nat.le_refl _) _).alloc (by simp) _
 have HR0:Hid _:=HR.out.below HW0.out
 go_wp2_with fail
 refine (HM.out _ (HG.out.below HW0.out) (cells_4 HR0.out.box).1 HR0.out.lt.1).mono ?_
 rintro e w1 ⟨rfl,hb1⟩
 have HB1:Hid (Below w.heap.size w w1):=trans2 HW0.out hb1
 have HO1:Hid (w1.heap[w.heap.size]? = some (.cells #[.int .i64 kk,.string p,.string d,.int .i64 v,.int .i64 f] 66 (0,0))):=kept_block hb1 (heap_alloc2_old _ _ _)
 have HZ1:Hid (w1.heap[w.heap.size+1]? = some (.cells #[.string ⟨#[]⟩,.string ⟨#[]⟩,.int .i64 0,.int .i64 0,.int .i64 0,.int .i64 0,.slice none 0 0] 103 (0,0))):=kept_block hb1 (heap_alloc2_new _ _ _)
 have HR1:Hid _:=HR0.out.below hb1
 have HG1:Hid _:=HG.out.below HB1.out
 obtain ⟨o0,o1,o2,o3,o4⟩:=cells_5 HO1.out
 have n1:w1.cell? ⟨0,kk * 6,none⟩=some (.bool false):=by
  have h9:=HG1.out.need kk 0 false (by
   rcases (show kk=2∨kk=3∨kk=4∨kk=5∨kk=6∨kk=7 by omega) with rfl | rfl | rfl | rfl | rfl | rfl <;> rfl)
  rw [Nat.add_zero,Nat.mul_comm] at h9
  exact h9
 have hk8:(kk:Int)<8:=by omega
 clear hb1
 go_upto_region 6 with fail
 have HSS:Hid (∀ W,Below w1.heap.size w1 W→W.cell? ⟨rb,2,none⟩=some (.map (some mb))∧W.cell? ⟨w.heap.size,1,none⟩=some (.string p)∧(Instr.lookup 52 (.map (some mb)) (.string p) true).run Tryz.prog W=.ok (.tuple #[fuV np nd nv nm nc no nk,.bool true]) W):=fun W hb=>⟨(cells_4 (HR1.out.below hb).box).2.2.1,(cells_5 (kept_block hb HO1.out)).2.1,HLK.out W (trans2 HB1.out hb)⟩
 have hrl1:=HR1.out.lt.1
 have hol1:=(Array.getElem?_eq_some_iff.1 HO1.out).1
 have hzl1:=(Array.getElem?_eq_some_iff.1 HZ1.out).1
 clear o0 o1 o2 o3 o4 n1
 go_cut [7,8] from 10 (fun s7 s8 wc=>s7=.pointer (some ⟨w1.heap.size,0,none⟩)∧s8=.bool true∧Hid (Below w1.heap.size w1 wc)∧Hid (wc.heap[w1.heap.size]? = some (.cells #[.string np,.string nd,.int .i64 nv,.int .i64 nm,.int .i64 nc,.int .i64 no,.int .i64 nk] 27 (0,0))))
 case first =>
  go_region_held3 (fun w'=>w'.cell? ⟨rb,2,none⟩=some (.map (some mb))∧w'.cell? ⟨w.heap.size,1,none⟩=some (.string p)∧(Instr.lookup 52 (.map (some mb)) (.string p) true).run Tryz.prog w'=.ok (.tuple #[fuV np nd nv nm nc no nk,.bool true]) w') (first
    | exact HSS.out _ (below_drew (Below.refl _ _))
    | exact HSS.out _ ((below_drew (Below.refl _ _)).alloc (by simp) _)
    | exact HSS.out _ (fillB_7 ((below_drew (Below.refl _ _)).alloc (by simp) _) (by simp))) (fail)
  all_goals (
   go_wp2_with fail
   go_meet
   case rel=>first | exact ⟨rfl,rfl,below_drew ((Below.refl _ _).alloc (Nat.le_refl _) _),heap_alloc_new _ _⟩ | exact ⟨rfl,rfl,fillB_7 ((below_drew (Below.refl _ _)).alloc (by simp) _) (by simp),fill_7 (heap_alloc_new _ _)⟩)
 case rest =>
 obtain ⟨rfl,rfl,HBc,HFc⟩:=hcut
 obtain ⟨nb,hnb⟩:∃ nb,w1.heap.size=nb:=⟨_,rfl⟩
 have HB2:Hid (Below w.heap.size w wc):=trans2 HB1.out HBc.out
 have HO2:Hid _:=kept_block HBc.out HO1.out
 have HZ2:Hid _:=kept_block HBc.out HZ1.out
 have HR2:Hid _:=HR1.out.below HBc.out
 have HG2:Hid _:=HG1.out.below HBc.out
 have hnbo:w.heap.size+1<nb:=by omega
 have hnbr:rb<nb:=by omega
 rw [hnb] at HFc ⊢
 clear hnb HSS HLK
 obtain rfl:kk=2:=by have:=HKE.out;omega
 obtain ⟨o0,o1,o2,o3,o4⟩:=cells_5 HO2.out
 obtain ⟨a0,a1,a2,a3,a4,a5,a6⟩:=cells_7 HFc.out
 go_wp2_with fail
 refine (HF.out _ HB2.out).mono ?_
 rintro e w3 ⟨rfl,hb3⟩
 have HB3:Hid (Below w.heap.size w w3):=trans2 HB2.out hb3
 have HO3:Hid _:=kept_block hb3 HO2.out
 have HZ3:Hid _:=kept_block hb3 HZ2.out
 have HF3:Hid _:=kept_block hb3 HFc.out
 have HR3:Hid _:=HR2.out.below hb3
 clear hb3 o0 o1 o2 o3 o4 a0 a1 a2 a3 a4 a5 a6
 obtain ⟨o0,o1,o2,o3,o4⟩:=cells_5 HO3.out
 obtain ⟨a0,a1,a2,a3,a4,a5,a6⟩:=cells_7 HF3.out
 go_wp2_with fail
 refine (HK.out _ HB3.out).mono ?_
 rintro e w4 ⟨ka,kn,kc,rfl,hE⟩
 have HE:Hid _:=hE
 have hrb:=HR.out.lt
 have HZ4:Hid _:=hE.box (w:=w) HR3.out HZ3.out (by decide) (by omega) (by omega)
 clear hE o0 o1 o2 o3 o4 a0 a1 a2 a3 a4 a5 a6
 obtain ⟨b0,b1,b2,b3,b4,b5,b6⟩:=cells_7 HZ4.out
 have hfz:=free_7 HZ4.out
 go_wp2_with fail
 exact bodyPost_ret (results_cell_tmp rfl _ _ (w.heap.size+1) 103 _ (0,0) _ (.int .i64 0) rfl rfl (fill_7 HZ4.out) Tryz.underlying103 rfl (by kernel_rfl)) rfl ⟨ka,kn,kc,rfl,HE.out.fin HB3.out HZ4.out (by omega) hrb.1 hrb.2⟩
set_option maxHeartbeats 16000000 in
set_option maxRecDepth 100000 in
theorem play_drop {k:Int} (hk2:2≤k) (hk7:k≤7) (base rb mb n:Nat) (D:DataW Value) (s st:Int) (chV:Value) (cn:Nat) (cs:List Value) (p d:ByteArray) (v f:Int) (w:World) (hg:GroundT w) (hR:ReqAt w base rb mb n D s st chV cn cs) (hp:p.size≤1000) (hk:k=3) (np nd:ByteArray) (nv nm nc no nk:Int)  (hl:look D p=fuV np nd nv nm nc no nk) (hh:Maps.has D (ky p)=true)
  (hF:∀ W,Below w.heap.size w W→Calls Tryz.prog 63 #[.pointer (some ⟨rb,0,none⟩),opV k p d v f,fuV np nd nv nm nc no nk] W fun e w'=>e=.returned (.int .i64 0)∧Below W.heap.size W w')
  (hM:∀ W,GroundT W→W.cell? ⟨rb,0,none⟩=some (.int .i64 s)→rb<W.heap.size→Calls Tryz.prog 61 #[.pointer (some ⟨rb,0,none⟩),opV k p d v f] W fun e w'=>e=.returned (.int .i64 0)∧Below W.heap.size W w') (M:Int × List Nd × ResT × List ChT) (hM0:M.1=0)
  (hK:∀ W,Below w.heap.size w W→Calls Tryz.prog 49 #[.pointer (some ⟨rb,0,none⟩),fuV np nd nv nm nc no nk] W fun e w'=>∃ ka kn kc,e=.returned (ReqE.V M.2.2.1 ka kn kc)∧ReqE W base rb mb n s st chV cn cs M.2.2.1 M.2.1 M.2.2.2 ka kn kc w') :
  Calls Tryz.prog 43 #[.pointer (some ⟨rb,0,none⟩),opV k p d v f] w (PlayEnd w base rb mb n s st chV cn cs M):=by
 have HF:Hid _:=hF
 have HK:Hid _:=hK
 obtain ⟨mc,MT,⟨mp,md,mv,mm,mmc,mo,mkids⟩,Mch⟩:=M
 obtain rfl:mc=0:=hM0
 clear hF hK
 have HKE:Hid (k=3):=hk
 clear hk
 have HM:Hid _:=hM
 have HR:Hid _:=hR
 have HG:Hid _:=hg
 have HLK:Hid (∀ W,Below w.heap.size w W→(Instr.lookup 52 (.map (some mb)) (.string p) true).run Tryz.prog W=.ok (.tuple #[fuV np nd nv nm nc no nk,.bool true]) W):=fun W hb=>by
  have:=look_run (hR.below hb).map hp
  rw [hl,hh] at this
  exact this
 obtain ⟨kk,hkk⟩:∃ kk:Nat,k=kk∧2≤kk∧kk≤7:=⟨k.toNat,by omega,by omega,by omega⟩
 obtain ⟨rfl,hkk2,hkk7⟩:=hkk
 clear hR hg hM hl hh hk2 hk7
 go_enter Tryz.func43,Tryz.ntmps43
 have HW0:Hid (Below w.heap.size w ((w.alloc (.cells #[.int .i64 kk,.string p,.string d,.int .i64 v,.int .i64 f] 66)).alloc (.cells #[.string ⟨#[]⟩,.string ⟨#[]⟩,.int .i64 0,.int .i64 0,.int .i64 0,.int .i64 0,.slice none 0 0] 103))):=((Below.refl _ _).alloc (Nat.le_refl _) _).alloc (by simp) _
 have HR0:Hid _:=HR.out.below HW0.out
 go_wp2_with fail
 refine (HM.out _ (HG.out.below HW0.out) (cells_4 HR0.out.box).1 HR0.out.lt.1).mono ?_
 rintro e w1 ⟨rfl,hb1⟩
 have HB1:Hid (Below w.heap.size w w1):=trans2 HW0.out hb1
 have HO1:Hid (w1.heap[w.heap.size]? = some (.cells #[.int .i64 kk,.string p,.string d,.int .i64 v,.int .i64 f] 66 (0,0))):=kept_block hb1 (heap_alloc2_old _ _ _)
 have HZ1:Hid (w1.heap[w.heap.size+1]? = some (.cells #[.string ⟨#[]⟩,.string ⟨#[]⟩,.int .i64 0,.int .i64 0,.int .i64 0,.int .i64 0,.slice none 0 0] 103 (0,0))):=kept_block hb1 (heap_alloc2_new _ _ _)
 have HR1:Hid _:=HR0.out.below hb1
 have HG1:Hid _:=HG.out.below HB1.out
 obtain ⟨o0,o1,o2,o3,o4⟩:=cells_5 HO1.out
 have n1:w1.cell? ⟨0,kk * 6,none⟩=some (.bool false):=by
  have h9:=HG1.out.need kk 0 false (by
   rcases (show kk=2∨kk=3∨kk=4∨kk=5∨kk=6∨kk=7 by omega) with rfl | rfl | rfl | rfl | rfl | rfl <;> rfl)
  rw [Nat.add_zero,Nat.mul_comm] at h9
  exact h9
 have hk8:(kk:Int)<8:=by omega
 clear hb1
 go_upto_region 6 with fail
 have HSS:Hid (∀ W,Below w1.heap.size w1 W→W.cell? ⟨rb,2,none⟩=some (.map (some mb))∧W.cell? ⟨w.heap.size,1,none⟩=some (.string p)∧(Instr.lookup 52 (.map (some mb)) (.string p) true).run Tryz.prog W=.ok (.tuple #[fuV np nd nv nm nc no nk,.bool true]) W):=fun W hb=>⟨(cells_4 (HR1.out.below hb).box).2.2.1,(cells_5 (kept_block hb HO1.out)).2.1,HLK.out W (trans2 HB1.out hb)⟩
 have hrl1:=HR1.out.lt.1
 have hol1:=(Array.getElem?_eq_some_iff.1 HO1.out).1
 have hzl1:=(Array.getElem?_eq_some_iff.1 HZ1.out).1
 clear o0 o1 o2 o3 o4 n1
 go_cut [7,8] from 10 (fun s7 s8 wc=>s7=.pointer (some ⟨w1.heap.size,0,none⟩)∧s8=.bool true∧Hid (Below w1.heap.size w1 wc)∧Hid (wc.heap[w1.heap.size]? = some (.cells #[.string np,.string nd,.int .i64 nv,.int .i64 nm,.int .i64 nc,.int .i64 no,.int .i64 nk] 27 (0,0))))
 case first =>
  go_region_held3 (fun w'=>w'.cell? ⟨rb,2,none⟩=some (.map (some mb))∧w'.cell? ⟨w.heap.size,1,none⟩=some (.string p)∧(Instr.lookup 52 (.map (some mb)) (.string p) true).run Tryz.prog w'=.ok (.tuple #[fuV np nd nv nm nc no nk,.bool true]) w') (first
    | exact HSS.out _ (below_drew (Below.refl _ _))
    | exact HSS.out _ ((below_drew (Below.refl _ _)).alloc (by simp) _)
    | exact HSS.out _ (fillB_7 ((below_drew (Below.refl _ _)).alloc (by simp) _) (by simp))) (fail)
  all_goals (
   go_wp2_with fail
   go_meet
   case rel=>first | exact ⟨rfl,rfl,below_drew ((Below.refl _ _).alloc (Nat.le_refl _) _),heap_alloc_new _ _⟩ | exact ⟨rfl,rfl,fillB_7 ((below_drew (Below.refl _ _)).alloc (by simp) _) (by simp),fill_7 (heap_alloc_new _ _)⟩)
 case rest =>
 obtain ⟨rfl,rfl,HBc,HFc⟩:=hcut
 obtain ⟨nb,hnb⟩:∃ nb,w1.heap.size=nb:=⟨_,rfl⟩
 have HB2:Hid (Below w.heap.size w wc):=trans2 HB1.out HBc.out
 have HO2:Hid _:=kept_block HBc.out HO1.out
 have HZ2:Hid _:=kept_block HBc.out HZ1.out
 have HR2:Hid _:=HR1.out.below HBc.out
 have HG2:Hid _:=HG1.out.below HBc.out
 have hnbo:w.heap.size+1<nb:=by omega
 have hnbr:rb<nb:=by omega
 rw [hnb] at HFc ⊢
 clear hnb HSS HLK
 obtain rfl:kk=3:=by have:=HKE.out;omega
 obtain ⟨o0,o1,o2,o3,o4⟩:=cells_5 HO2.out
 obtain ⟨a0,a1,a2,a3,a4,a5,a6⟩:=cells_7 HFc.out
 go_wp2_with fail
 refine (HF.out _ HB2.out).mono ?_
 rintro e w3 ⟨rfl,hb3⟩
 have HB3:Hid (Below w.heap.size w w3):=trans2 HB2.out hb3
 have HO3:Hid _:=kept_block hb3 HO2.out
 have HZ3:Hid _:=kept_block hb3 HZ2.out
 have HF3:Hid _:=kept_block hb3 HFc.out
 have HR3:Hid _:=HR2.out.below hb3
 clear hb3 o0 o1 o2 o3 o4 a0 a1 a2 a3 a4 a5 a6
 obtain ⟨o0,o1,o2,o3,o4⟩:=cells_5 HO3.out
 obtain ⟨a0,a1,a2,a3,a4,a5,a6⟩:=cells_7 HF3.out
 go_wp2_with fail
 refine (HK.out _ HB3.out).mono ?_
 rintro e w4 ⟨ka,kn,kc,rfl,hE⟩
 have HE:Hid _:=hE
 have hrb:=HR.out.lt
 have HZ4:Hid _:=hE.box (w:=w) HR3.out HZ3.out (by decide) (by omega) (by omega)
 clear hE o0 o1 o2 o3 o4 a0 a1 a2 a3 a4 a5 a6
 obtain ⟨b0,b1,b2,b3,b4,b5,b6⟩:=cells_7 HZ4.out
 have hfz:=free_7 HZ4.out
 go_wp2_with fail
 exact bodyPost_ret (results_cell_tmp rfl _ _ (w.heap.size+1) 103 _ (0,0) _ (.int .i64 0) rfl rfl (fill_7 HZ4.out) Tryz.underlying103 rfl (by kernel_rfl)) rfl ⟨ka,kn,kc,rfl,HE.out.fin HB3.out HZ4.out (by omega) hrb.1 hrb.2⟩
set_option maxHeartbeats 16000000 in
set_option maxRecDepth 100000 in
theorem play_read {k:Int} (hk2:2≤k) (hk7:k≤7) (base rb mb n:Nat) (D:DataW Value) (s st:Int) (chV:Value) (cn:Nat) (cs:List Value) (p d:ByteArray) (v f:Int) (w:World) (hg:GroundT w) (hR:ReqAt w base rb mb n D s st chV cn cs) (hp:p.size≤1000) (hk4:4≤k) (np nd:ByteArray) (nv nm nc no nk:Int)  (hl:look D p=fuV np nd nv nm nc no nk) (hh:Maps.has D (ky p)=true)
  (hF:∀ W,Below w.heap.size w W→Calls Tryz.prog 63 #[.pointer (some ⟨rb,0,none⟩),opV k p d v f,fuV np nd nv nm nc no nk] W fun e w'=>e=.returned (.int .i64 0)∧Below W.heap.size W w')
  (hM:∀ W,GroundT W→W.cell? ⟨rb,0,none⟩=some (.int .i64 s)→rb<W.heap.size→Calls Tryz.prog 61 #[.pointer (some ⟨rb,0,none⟩),opV k p d v f] W fun e w'=>e=.returned (.int .i64 0)∧Below W.heap.size W w') (M:Int × List Nd × ResT × List ChT) (hM0:M.1=0)
  (hK:∀ W,Below w.heap.size w W→Calls Tryz.prog 65 #[.pointer (some ⟨rb,0,none⟩),.int .i64 k,fuV np nd nv nm nc no nk] W fun e w'=>∃ ka kn kc,e=.returned (ReqE.V M.2.2.1 ka kn kc)∧ReqE W base rb mb n s st chV cn cs M.2.2.1 M.2.1 M.2.2.2 ka kn kc w') :
  Calls Tryz.prog 43 #[.pointer (some ⟨rb,0,none⟩),opV k p d v f] w (PlayEnd w base rb mb n s st chV cn cs M):=by
 have HF:Hid _:=hF
 have HK:Hid _:=hK
 obtain ⟨mc,MT,⟨mp,md,mv,mm,mmc,mo,mkids⟩,Mch⟩:=M
 obtain rfl:mc=0:=hM0
 clear hF hK
 have HKE:Hid (4≤k):=hk4
 clear hk4
 have HM:Hid _:=hM
 have HR:Hid _:=hR
 have HG:Hid _:=hg
 have HLK:Hid (∀ W,Below w.heap.size w W→(Instr.lookup 52 (.map (some mb)) (.string p) true).run Tryz.prog W=.ok (.tuple #[fuV np nd nv nm nc no nk,.bool true]) W):=fun W hb=>by
  have:=look_run (hR.below hb).map hp
  rw [hl,hh] at this
  exact this
 obtain ⟨kk,hkk⟩:∃ kk:Nat,k=kk∧2≤kk∧kk≤7:=⟨k.toNat,by omega,by omega,by omega⟩
 obtain ⟨rfl,hkk2,hkk7⟩:=hkk
 clear hR hg hM hl hh hk2 hk7
 go_enter Tryz.func43,Tryz.ntmps43
 have HW0:Hid (Below w.heap.size w ((w.alloc (.cells #[.int .i64 kk,.string p,.string d,.int .i64 v,.int .i64 f] 66)).alloc (.cells #[.string ⟨#[]⟩,.string ⟨#[]⟩,.int .i64 0,.int .i64 0,.int .i64 0,.int .i64 0,.slice none 0 0] 103))):=((Below.refl _ _).alloc (Nat.le_refl _) _).alloc (by simp) _
 have HR0:Hid _:=HR.out.below HW0.out
 go_wp2_with fail
 refine (HM.out _ (HG.out.below HW0.out) (cells_4 HR0.out.box).1 HR0.out.lt.1).mono ?_
 rintro e w1 ⟨rfl,hb1⟩
 have HB1:Hid (Below w.heap.size w w1):=trans2 HW0.out hb1
 have HO1:Hid (w1.heap[w.heap.size]? = some (.cells #[.int .i64 kk,.string p,.string d,.int .i64 v,.int .i64 f] 66 (0,0))):=kept_block hb1 (heap_alloc2_old _ _ _)
 have HZ1:Hid (w1.heap[w.heap.size+1]? = some (.cells #[.string ⟨#[]⟩,.string ⟨#[]⟩,.int .i64 0,.int .i64 0,.int .i64 0,.int .i64 0,.slice none 0 0] 103 (0,0))):=kept_block hb1 (heap_alloc2_new _ _ _)
 have HR1:Hid _:=HR0.out.below hb1
 have HG1:Hid _:=HG.out.below HB1.out
 obtain ⟨o0,o1,o2,o3,o4⟩:=cells_5 HO1.out
 have n1:w1.cell? ⟨0,kk * 6,none⟩=some (.bool false):=by
  have h9:=HG1.out.need kk 0 false (by
   rcases (show kk=2∨kk=3∨kk=4∨kk=5∨kk=6∨kk=7 by omega) with rfl | rfl | rfl | rfl | rfl | rfl <;> rfl)
  rw [Nat.add_zero,Nat.mul_comm] at h9
  exact h9
 have hk8:(kk:Int)<8:=by omega
 clear hb1
 go_upto_region 6 with fail
 have HSS:Hid (∀ W,Below w1.heap.size w1 W→W.cell? ⟨rb,2,none⟩=some (.map (some mb))∧W.cell? ⟨w.heap.size,1,none⟩=some (.string p)∧(Instr.lookup 52 (.map (some mb)) (.string p) true).run Tryz.prog W=.ok (.tuple #[fuV np nd nv nm nc no nk,.bool true]) W):=fun W hb=>⟨(cells_4 (HR1.out.below hb).box).2.2.1,(cells_5 (kept_block hb HO1.out)).2.1,HLK.out W (trans2 HB1.out hb)⟩
 have hrl1:=HR1.out.lt.1
 have hol1:=(Array.getElem?_eq_some_iff.1 HO1.out).1
 have hzl1:=(Array.getElem?_eq_some_iff.1 HZ1.out).1
 clear o0 o1 o2 o3 o4 n1
 go_cut [7,8] from 10 (fun s7 s8 wc=>s7=.pointer (some ⟨w1.heap.size,0,none⟩)∧s8=.bool true∧Hid (Below w1.heap.size w1 wc)∧Hid (wc.heap[w1.heap.size]? = some (.cells #[.string np,.string nd,.int .i64 nv,.int .i64 nm,.int .i64 nc,.int .i64 no,.int .i64 nk] 27 (0,0))))
 case first =>
  go_region_held3 (fun w'=>w'.cell? ⟨rb,2,none⟩=some (.map (some mb))∧w'.cell? ⟨w.heap.size,1,none⟩=some (.string p)∧(Instr.lookup 52 (.map (some mb)) (.string p) true).run Tryz.prog w'=.ok (.tuple #[fuV np nd nv nm nc no nk,.bool true]) w') (first
    | exact HSS.out _ (below_drew (Below.refl _ _))
    | exact HSS.out _ ((below_drew (Below.refl _ _)).alloc (by simp) _)
    | exact HSS.out _ (fillB_7 ((below_drew (Below.refl _ _)).alloc (by simp) _) (by simp))) (fail)
  all_goals (
   go_wp2_with fail
   go_meet
   case rel=>first | exact ⟨rfl,rfl,below_drew ((Below.refl _ _).alloc (Nat.le_refl _) _),heap_alloc_new _ _⟩ | exact ⟨rfl,rfl,fillB_7 ((below_drew (Below.refl _ _)).alloc (by simp) _) (by simp),fill_7 (heap_alloc_new _ _)⟩)
 case rest =>
 obtain ⟨rfl,rfl,HBc,HFc⟩:=hcut
 obtain ⟨nb,hnb⟩:∃ nb,w1.heap.size=nb:=⟨_,rfl⟩
 have HB2:Hid (Below w.heap.size w wc):=trans2 HB1.out HBc.out
 have HO2:Hid _:=kept_block HBc.out HO1.out
 have HZ2:Hid _:=kept_block HBc.out HZ1.out
 have HR2:Hid _:=HR1.out.below HBc.out
 have HG2:Hid _:=HG1.out.below HBc.out
 have hnbo:w.heap.size+1<nb:=by omega
 have hnbr:rb<nb:=by omega
 rw [hnb] at HFc ⊢
 clear hnb HSS HLK
 have hk4:4≤kk:=by have:=HKE.out;omega
 have e2:((kk:Int)==2)=false:=by simp;omega
 have e3:((kk:Int)==3)=false:=by simp;omega
 obtain ⟨o0,o1,o2,o3,o4⟩:=cells_5 HO2.out
 obtain ⟨a0,a1,a2,a3,a4,a5,a6⟩:=cells_7 HFc.out
 go_wp2_with fail
 refine (HF.out _ HB2.out).mono ?_
 rintro e w3 ⟨rfl,hb3⟩
 have HB3:Hid (Below w.heap.size w w3):=trans2 HB2.out hb3
 have HO3:Hid _:=kept_block hb3 HO2.out
 have HZ3:Hid _:=kept_block hb3 HZ2.out
 have HF3:Hid _:=kept_block hb3 HFc.out
 have HR3:Hid _:=HR2.out.below hb3
 clear hb3 o0 o1 o2 o3 o4 a0 a1 a2 a3 a4 a5 a6
 obtain ⟨o0,o1,o2,o3,o4⟩:=cells_5 HO3.out
 obtain ⟨a0,a1,a2,a3,a4,a5,a6⟩:=cells_7 HF3.out
 go_wp2_with fail
 refine (HK.out _ HB3.out).mono ?_
 rintro e w4 ⟨ka,kn,kc,rfl,hE⟩
 have HE:Hid _:=hE
 have hrb:=HR.out.lt
 have HZ4:Hid _:=hE.box (w:=w) HR3.out HZ3.out (by decide) (by omega) (by omega)
 clear hE o0 o1 o2 o3 o4 a0 a1 a2 a3 a4 a5 a6
 obtain ⟨b0,b1,b2,b3,b4,b5,b6⟩:=cells_7 HZ4.out
 have hfz:=free_7 HZ4.out
 go_wp2_with fail
 exact bodyPost_ret (results_cell_tmp rfl _ _ (w.heap.size+1) 103 _ (0,0) _ (.int .i64 0) rfl rfl (fill_7 HZ4.out) Tryz.underlying103 rfl (by kernel_rfl)) rfl ⟨ka,kn,kc,rfl,HE.out.fin HB3.out HZ4.out (by omega) hrb.1 hrb.2⟩
end Go.Proofs.YtckmihplkhmpnaaGreatDoor
namespace Go.Proofs.YtckmihplkhmpnaaGreatDoor
open Go.RowKit Go.Maps Go.WideShapes
set_option linter.unusedVariables false
set_option linter.unusedSimpArgs false
theorem mal_ok {s k:Int} {p d:ByteArray} {f:Int} (h:malC s k p d f=0):1≤k∧k≤7∧(parse p).1=0∧(k=2→d.size≤64)∧(k=3→p≠⟨#[47]⟩):=by
 unfold malC at h
 split at h
 · cases h
 split at h
 · cases h
 split at h
 · cases h
 split at h
 · cases h
 split at h
 · cases h
 split at h
 · cases h
 rename_i h1 h2 h3 h4 h5 h6
 refine ⟨by omega,by omega,?_,fun hk=>?_,fun hk e=>h4 ⟨.inr hk,e⟩⟩
 · by_cases hp:(parse p).1=0
   · exact hp
   · exact absurd (.inl hp) h3
 · by_cases hd:64<d.size
   · exact absurd ⟨.inr hk,hd⟩ h6
   · omega
theorem mis_ok2 {ov nv:Int} {kids:List ByteArray} (h:misC 2 ov nv kids=0):nv<2147483647:=by
 unfold misC at h
 split at h
 · cases h
 split at h
 · cases h
 split at h
 · cases h
 rename_i h1 h2 h3
 omega
set_option maxHeartbeats 1000000 in
theorem play_any (base rb mb n:Nat) (D:DataW Value) (T:List Nd) (s st:Int) (chV:Value) (cn:Nat) (cs:List Value) (o:OpT) (ho:o.Ok) (w:World) (hg:GroundT w) (hgc:GroundC w)
  (hR:ReqAt w base rb mb n D s st chV cn cs) (hr:Rep D T) (hi:Inv T) (hn:n≤9000) (hcn:cn≤900) :
  Calls Tryz.prog 43 #[.pointer (some ⟨rb,0,none⟩),opV o.k o.p o.d o.v o.f] w (PlayEnd w base rb mb n s st chV cn cs (oneM T s st o)):=by
 have hM:=mal_all o ho rb s
 have err:∀ c e w',e=Ending.returned (.tuple #[noRes,.int .i64 c])∧Below w.heap.size w w'→PlayEnd w base rb mb n s st chV cn cs (c,T,zr,[]) e w':=fun c e w' ⟨he,hb⟩=>⟨none,0,0,he,ReqE.err hR hr hb⟩
 unfold oneM
 by_cases hc:malC s o.k o.p o.d o.f=0
 · rw [if_neg (by simpa using hc)]
   rw [hc] at hM
   obtain ⟨hk1,hk7,hp0,hd2,hr3⟩:=mal_ok hc
   have hps:=size_of_parse hp0
   by_cases h1:o.k=1
   · rw [if_pos h1]
     have hK:=fun W (hb:Below w.heap.size w W)=>make_any base rb mb n D T s st chV cn cs o W (hg.below hb) (hgc.below hb) (hR.below hb) hr hi h1 hc hn hcn
     rw [h1] at hM hK ⊢
     exact play_mk base rb mb n D s st chV cn cs o.p o.d o.v o.f w hg hR (makeM T s st o) hM hK
   · rw [if_neg h1]
     cases hf:fnd T o.p with
     | none =>
       exact Calls.mono (play_40 (by omega) hk7 base rb mb n D s st chV cn cs o.p o.d o.v o.f w hg hR (by omega) (hr.look_none hf) (by rw [hr.has_fnd,hf];rfl) hM) (err 40)
     | some x =>
       dsimp only
       have hx:=fnd_some hf
       have hxn:=hi.nd x hx.1
       have hxs:=size_of_parse hxn.1
       have hF:=fun W (hb:Below w.heap.size w W)=>misfit_any (k:=o.k) (by omega) hk7 base rb mb n D T s st chV cn cs o.p o.d o.v o.f x.p x.d x.v x.m x.c x.o x.k W (hg.below hb) (hR.below hb) hr hi.srt hi.sml (Nat.le_trans hi.len (by decide))
       have hlk:=hr.look_fnd hf
       have hh:Maps.has D (ky o.p)=true:=by rw [hr.has_fnd,hf];rfl
       by_cases hm:misC o.k o.v x.v (kidsM T x.p)=0
       · rw [if_neg (by simpa using hm)]
         rw [hm] at hF
         unfold restM
         by_cases h2:o.k=2
         · rw [if_pos h2]
           have hv:=mis_ok2 (by rw [← h2];exact hm)
           refine play_set (by omega) hk7 base rb mb n D s st chV cn cs o.p o.d o.v o.f w hg hR (by omega) h2 x.p x.d x.v x.m x.c x.o x.k hlk hh hF hM _ rfl (fun W hb=>?_)
           refine Calls.mono (set_any base rb mb n D s st chV cn cs x.p x.d o.d x.v x.m x.c x.o x.k W (hR.below hb) ⟨by omega,hv⟩ (by omega) (by have:=hd2 h2;omega) (by omega) (by omega)) ?_
           rintro e w' ⟨rfl,chV',hR',hc',hC'⟩
           have hrep:=hr.set (u:=x) (y:=⟨x.p,o.d,x.v+1,x.m,st,x.o,x.k⟩) hx.1 rfl
           exact ⟨none,0,0,rfl,World.ownsRow_nil _ _ _ _,⟨n+1,_,chV',by omega,hrep,by simpa [chCs] using hR',hc'⟩,hC'⟩
         · rw [if_neg h2]
           by_cases h3:o.k=3
           · rw [if_pos h3]
             refine play_drop (by omega) hk7 base rb mb n D s st chV cn cs o.p o.d o.v o.f w hg hR (by omega) h3 x.p x.d x.v x.m x.c x.o x.k hlk hh hF hM _ rfl (fun W hb=>?_)
             refine Calls.mono (drop_any base rb mb n D s st chV cn cs x.p x.d x.v x.m x.c x.o x.k W (hR.below hb) (by omega) (by omega) (by omega)) ?_
             rintro e w' ⟨rfl,chV',hR',hc',hC'⟩
             exact ⟨none,0,0,rfl,World.ownsRow_nil _ _ _ _,⟨n,_,chV',by omega,hr.del x.p,by simpa [chCs] using hR',hc'⟩,hC'⟩
           · rw [if_neg h3]
             refine play_read (by omega) hk7 base rb mb n D s st chV cn cs o.p o.d o.v o.f w hg hR (by omega) (by omega) x.p x.d x.v x.m x.c x.o x.k hlk hh hF hM _ rfl (fun W hb=>?_)
             refine Calls.mono (read_any base rb mb n D T s st chV cn cs o.k x.p x.d x.v x.m x.c x.o x.k W (hg.below hb).toGround (hR.below hb) hr hi.srt hi.sml (Nat.le_trans hi.len (by decide)) (by omega) (by omega)) ?_
             rintro e w' ⟨kv,rfl,hrow,hb'⟩
             obtain ⟨ka,kn,kc,rfl⟩:∃ a n c,kv=.slice a n c:=by
              rcases hrow.2 with ⟨rfl,_⟩ | ⟨g,cap,cur,rfl,_⟩
              · exact ⟨_,_,_,rfl⟩
              · exact ⟨_,_,_,rfl⟩
             exact ⟨ka,kn,kc,rfl,hrow,⟨n,D,chV,by omega,hr,by simpa [chCs] using (hR.below hb).below hb',.inl rfl⟩,Chg.of_below hb' _⟩
       · rw [if_pos hm]
         exact Calls.mono (play_mis (by omega) hk7 base rb mb n D s st chV cn cs o.p o.d o.v o.f w hg hR (by omega) x.p x.d x.v x.m x.c x.o x.k hlk hh _ hF hm hM) (err _)
 · rw [if_pos hc]
   exact Calls.mono (play_bad base rb mb n D s st chV cn cs o.k o.p o.d o.v o.f w hg hR _ hc hM) (err _)
theorem Inv.upd {T:List Nd} (h:Inv T) {y:Nd} (hy:(parse y.p).1=0∧y.d.size≤64∧0≤y.v∧y.v≤2147483647∧0≤y.k∧y.k≤100000):Inv (upd T y):=by
 refine ⟨h.srt.upd y,by rw [upd_len];exact h.len,fun x hx=>?_⟩
 unfold Go.Proofs.YtckmihplkhmpnaaGreatDoor.upd at hx
 obtain ⟨z,hz,rfl⟩:=List.mem_map.1 hx
 split
 · exact hy
 · exact h.nd z hz
theorem oneM_inv {T:List Nd} (h:Inv T) (s st:Int) (o:OpT):Inv (oneM T s st o).2.1:=by
 unfold oneM
 split
 · exact h
 rename_i hc
 have hc:malC s o.k o.p o.d o.f=0:=by simpa using hc
 obtain ⟨hk1,hk7,hp0,hd2,_⟩:=mal_ok hc
 split
 · rename_i h1
   unfold makeM
   split
   · exact h
   rename_i u hfu
   have hu:=fnd_some hfu
   have hun:=h.nd u hu.1
   split
   · exact h
   split
   · exact h
   rename_i hfull
   split
   · exact h
   rename_i hfa
   split
   · exact h
   rename_i hlen
   rw [h1] at hc
   obtain ⟨hf,_,hlast,hroot,hd⟩:=mal_ok1 hc
   have hap:(parse (atOf o.p o.f u.k)).1=0:=by
    unfold atOf
    split
    · rename_i h2
      obtain ⟨xs,k,x,hx,hxl,hxk,hlx⟩:=names_of hp0 hroot
      rw [counted_parse hx k hxl x hxk (by rw [← hlx];exact hlast h2)]
    · exact hp0
   have hup:Inv (upd T { u with k:=if 2≤o.f then u.k+1 else u.k }):=h.upd ⟨hun.1,hun.2.1,hun.2.2.1,hun.2.2.2.1,by show 0≤(if 2≤o.f then u.k+1 else u.k);split <;> omega,by show (if 2≤o.f then u.k+1 else u.k)≤100000;split <;> omega⟩
   have hnone:fnd T (atOf o.p o.f u.k)=none:=by simpa using hfa
   refine ⟨hup.srt.ins (fun x hx=>?_),by show (ins _ _).length≤64;rw [ins_len,upd_len];omega,fun x hx=>?_⟩
   · have hm:x.p∈(upd T { u with k:=if 2≤o.f then u.k+1 else u.k }).map Nd.p:=List.mem_map_of_mem hx
     rw [upd_map] at hm
     obtain ⟨z,hz,e⟩:=List.mem_map.1 hm
     rw [← e]
     exact fnd_none hnone z hz
   · rcases List.mem_cons.1 ((ins_perm _ _).mem_iff.1 hx) with rfl | hx
     · exact ⟨hap,hd,by show (0:Int)≤0;omega,by show (0:Int)≤2147483647;omega,by show (0:Int)≤0;omega,by show (0:Int)≤100000;omega⟩
     · exact hup.nd x hx
 · rename_i h1
   split
   · exact h
   rename_i x hf
   have hx:=fnd_some hf
   have hxn:=h.nd x hx.1
   split
   · exact h
   rename_i hm
   have hm:misC o.k o.v x.v (kidsM T x.p)=0:=by simpa using hm
   unfold restM
   split
   · rename_i h2
     have hv:=mis_ok2 (by rw [← h2];exact hm)
     exact h.upd ⟨hxn.1,hd2 h2,by show 0≤x.v+1;omega,by show x.v+1≤2147483647;omega,hxn.2.2.2.2.1,hxn.2.2.2.2.2⟩
   split
   · exact ⟨h.srt.filter _,Nat.le_trans (List.length_filter_le _ _) h.len,fun y hy=>h.nd y (List.mem_filter.1 hy).1⟩
   · exact h
end Go.Proofs.YtckmihplkhmpnaaGreatDoor
namespace Go.Proofs.YtckmihplkhmpnaaGreatDoor
open Go.RowKit Go.Maps Go.WideShapes
set_option linter.unusedVariables false
set_option linter.unusedSimpArgs false
structure PlayR where
 code:Int
 at':Nat
 T:List Nd
 R:List ResT
 C:List ChT
def playL (T0:List Nd) (s st:Int):List OpT→Nat→List Nd→List ResT→List ChT→PlayR
 | [],i,T,R,C=>⟨0,0,T,R,C⟩
 | o :: r,i,T,R,C=>if (oneM T s st o).1≠0 then ⟨(oneM T s st o).1,i,T0,[],[]⟩ else playL T0 s st r (i+1) (oneM T s st o).2.1 (R ++ [(oneM T s st o).2.2.1]) (C ++ (oneM T s st o).2.2.2)
def mayC (s st:Int) (n:Nat):Int:=if 4<n then 2 else if s<0∨2147483647<s∨st<1∨2147483647<st then 3 else if n=0 then 48 else 0
def playM (T:List Nd) (s st:Int) (os:List OpT):PlayR:=if mayC s st os.length≠0 then ⟨mayC s st os.length,0,T,[],[]⟩ else playL T s st os 0 T [] []
set_option maxHeartbeats 3200000 in
theorem mayPlay_any {w:World} {tb mb:Nat} (h:w.cell? ⟨tb,0,none⟩=some (.map (some mb))) (s st:Int) (n:Nat) :
  Calls Tryz.prog 41 #[.pointer (some ⟨tb,0,none⟩),.int .i64 s,.int .i64 st,.int .i64 (n:Int)] w fun e w'=>e=.returned (.int .i64 (mayC s st n))∧w'=w:=by
 have HN:Hid _:=isNone_at tb (some mb) w h
 by_cases h4:4<n
 · have e:mayC s st n=2:=by unfold mayC;rw [if_pos h4]
   have q:(4:Int)<(n:Int):=by omega
   rw [e]
   clear h
   go_enter Tryz.func41,Tryz.ntmps41
   go_wp2_with (first | (go_at_call 19;refine Calls.mono HN.out ?_;rintro e w1 ⟨rfl,rfl⟩) | fail)
   go_ret
   exact ⟨rfl,rfl⟩
 have q4:¬ (4:Int)<(n:Int):=by omega
 by_cases hb:s<0∨2147483647<s∨st<1∨2147483647<st
 · have e:mayC s st n=3:=by unfold mayC;rw [if_neg h4,if_pos hb]
   rw [e]
   have hb':s<0∨(¬ s<0∧2147483647<s)∨(¬ s<0∧¬ 2147483647<s∧st<1)∨(¬ s<0∧¬ 2147483647<s∧¬ st<1∧2147483647<st):=by omega
   clear h hb
   rcases hb' with c1 | ⟨c1,c2⟩ | ⟨c1,c2,c3⟩ | ⟨c1,c2,c3,c4⟩
   all_goals (
    go_enter Tryz.func41,Tryz.ntmps41
    go_wp2_with (first | (go_at_call 19;refine Calls.mono HN.out ?_;rintro e w1 ⟨rfl,rfl⟩) | fail)
    go_ret
    exact ⟨rfl,rfl⟩)
 by_cases h0:n=0
 · have e:mayC s st n=48:=by unfold mayC;rw [if_neg h4,if_neg hb,if_pos h0]
   rw [e]
   subst h0
   have c1:¬ s<0:=by omega
   have c2:¬ 2147483647<s:=by omega
   have c3:¬ st<1:=by omega
   have c4:¬ 2147483647<st:=by omega
   clear h hb
   go_enter Tryz.func41,Tryz.ntmps41
   go_wp2_with (first | (go_at_call 19;refine Calls.mono HN.out ?_;rintro e w1 ⟨rfl,rfl⟩) | fail)
   go_ret
   exact ⟨rfl,rfl⟩
 · have e:mayC s st n=0:=by unfold mayC;rw [if_neg h4,if_neg hb,if_neg h0]
   rw [e]
   exact mayPlay_ok h s st n (by omega) (by omega) (by omega) (by omega) (by omega) (by omega)
structure RsT where
 r:ResT
 a:Option Addr
 n:Nat
 c:Nat
abbrev RsT.cs (x:RsT):List Value:=[.string x.r.p,.string x.r.d,.int .i64 x.r.v,.int .i64 x.r.m,.int .i64 x.r.c,.int .i64 x.r.o,.slice x.a x.n x.c]
def RsT.el (x:RsT):Fa.El 7:=⟨x.cs,rfl,by simp [Value.oneCell']⟩
def zEl:Fa.El 7:=⟨[.string ⟨#[]⟩,.string ⟨#[]⟩,.int .i64 0,.int .i64 0,.int .i64 0,.int .i64 0,.slice none 0 0],rfl,by simp [Value.oneCell']⟩
structure RsAt (w:World) (B:Nat) (rv:Value) (N:Nat) (L:List RsT):Prop where
 row:w.ownsRow B 103 7 rv N (Fa.fl (L.map RsT.el ++ List.replicate (N - L.length) zEl))
 le:L.length≤N
 kids:∀ x∈L,w.ownsRow B 9 1 (.slice x.a x.n x.c) x.r.kids.length (x.r.kids.map Value.string)
theorem ReqAt.keeps {w w':World} {base rb mb n B T sz m:Nat} {D:DataW Value} {s st:Int} {chV v:Value} {cn:Nat} {cs xs:List Value} (hR:ReqAt w base rb mb n D s st chV cn cs) (hc:Chg w w' (fun k=>k=rb∨k=mb∨chV.ownBlock=some k)) (h:w.ownsRow B T sz v m xs) (h1:T≠101) (h2:T≠69):w'.ownsRow B T sz v m xs :=
 owns_chg h hc (fun k hk e=>by
  obtain ⟨cur,hcur⟩:=owns_kind h hk
  rcases e with e | e | e
  · subst e
    have:=hR.box
    rw [hcur] at this
    simp at this
    exact h1 this.2
  · subst e
    obtain ⟨es,clock,hb,_⟩:=hR.map
    rw [hcur] at hb
    cases hb
  · obtain ⟨cur',hcur'⟩:=owns_kind hR.row e
    rw [hcur] at hcur'
    simp at hcur'
    exact h2 hcur'.2)
theorem RsAt.below {w w':World} {B N:Nat} {rv:Value} {L:List RsT} (h:RsAt w B rv N L) (hb:Below w.heap.size w w'):RsAt w' B rv N L :=
 ⟨owns_chg h.row (Chg.of_below hb (fun _=>False)) (fun _ _=>id),h.le,fun x hx=>owns_chg (h.kids x hx) (Chg.of_below hb (fun _=>False)) (fun _ _=>id)⟩
theorem RsAt.keeps {w w':World} {base rb mb n B N:Nat} {D:DataW Value} {s st:Int} {chV rv:Value} {cn:Nat} {cs:List Value} {L:List RsT} (h:RsAt w B rv N L) (hR:ReqAt w base rb mb n D s st chV cn cs) (hc:Chg w w' (fun k=>k=rb∨k=mb∨chV.ownBlock=some k)):RsAt w' B rv N L :=
 ⟨hR.keeps hc h.row (by decide) (by decide),h.le,fun x hx=>hR.keeps hc (h.kids x hx) (by decide) (by decide)⟩
theorem RsAt.set {w:World} {B N g cap:Nat} {L:List RsT} (h:RsAt w B (.slice (some ⟨g,0,none⟩) N cap) N L) (hlt:L.length<N) (x:RsT) (hk:w.ownsRow B 9 1 (.slice x.a x.n x.c) x.r.kids.length (x.r.kids.map Value.string)):RsAt (w.setCells g (L.length * 7) x.cs) B (.slice (some ⟨g,0,none⟩) N cap) N (L ++ [x]):=by
 have hlen:(L.map RsT.el ++ List.replicate (N - L.length) zEl).length=N:=by simp;omega
 have hrow:=h.row
 have hr2:w.ownsRow B 103 7 (.slice (some ⟨g,0,none⟩) (L.map RsT.el ++ List.replicate (N - L.length) zEl).length cap) (L.map RsT.el ++ List.replicate (N - L.length) zEl).length (Fa.fl (L.map RsT.el ++ List.replicate (N - L.length) zEl)):=by rw [hlen];exact hrow
 have h3:=Fa.row_sets (by decide) hr2 L.length x.el (by rw [hlen];exact hlt)
 have e:(L.map RsT.el ++ List.replicate (N - L.length) zEl).set L.length x.el=(L ++ [x]).map RsT.el ++ List.replicate (N - (L ++ [x]).length) zEl:=by
  rw [show N - L.length=(N - (L ++ [x]).length)+1 by simp;omega,List.replicate_succ,List.map_append,List.append_assoc]
  have:(L.map RsT.el).length=L.length:=by simp
  conv=>lhs;rw [← this]
  rw [List.set_append_right _ _ (Nat.le_refl _)]
  simp
 rw [hlen,List.length_set,hlen,e] at h3
 have hkind:∀ {v:Value} {m:Nat} {xs:List Value},w.ownsRow B 9 1 v m xs→(w.setCells g (L.length * 7) x.cs).ownsRow B 9 1 v m xs:=fun {v m xs} hv=>owns_chg hv (Fa.chg_setCells g _ _ w) (fun k hk' e'=>by
  have e'':k=g:=e'
  subst e''
  obtain ⟨cur,hcur⟩:=owns_kind hv hk'
  obtain ⟨cur',hcur'⟩:=owns_kind hrow (k:=k) rfl
  rw [hcur] at hcur'
  simp at hcur')
 refine ⟨h3,by simp;omega,fun y hy=>?_⟩
 rcases List.mem_append.1 hy with hy | hy
 · exact hkind (h.kids y hy)
 · obtain rfl:=List.mem_singleton.1 hy
   exact hkind hk
theorem oneM_ch (T:List Nd) (s st:Int) (o:OpT):(oneM T s st o).2.2.2.length≤1:=by
 unfold oneM
 split
 · exact Nat.zero_le _
 split
 · unfold makeM
   split
   · exact Nat.zero_le _
   split
   · exact Nat.zero_le _
   split
   · exact Nat.zero_le _
   split
   · exact Nat.zero_le _
   split
   · exact Nat.zero_le _
   · exact Nat.le_refl _
 split
 · exact Nat.zero_le _
 split
 · exact Nat.zero_le _
 unfold restM
 split
 · exact Nat.le_refl _
 split
 · exact Nat.le_refl _
 · exact Nat.zero_le _
end Go.Proofs.YtckmihplkhmpnaaGreatDoor
