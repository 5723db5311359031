import Derived.Test.YtckmihplkhmpnaaGreatDoorTMal
import Derived.Test.YtckmihplkhmpnaaGreatDoorTNone2
import Derived.Deep.AppendLies
import Derived.Deep.RegionHeld3
import Derived.Deep.Cut
import Derived.Deep.DeepFit
import Derived.Deep.MidRow
import Derived.Deep.RegionLaw
import Derived.Deep.DrawnRows
import Derived.Test.YtckmihplkhmpnaaGreatDoorTStep
import Derived.Maps.OwnSet
namespace Go.Proofs.YtckmihplkhmpnaaGreatDoor
open Go.RowKit Go.Maps
set_option linter.unusedVariables false
set_option linter.unusedSimpArgs false
attribute [local go_sem ↓] Go.wp_at_zero Go.wp_at_succ
theorem Tryz.infoC:(Tryz.prog.info? 69).map (fun i=>(i.zero,i.size,i.bytes))=some (some (.agg #[.int .i64 0,.string ⟨#[]⟩,.string ⟨#[]⟩,.int .i64 0]),4,48):=by kernel_rfl
theorem owns_same {w w':World} {B e s n:Nat} {v:Value} {xs:List Value} (h:w.ownsRow B e s v n xs) (hk:∀ k,v.ownBlock=some k→w'.heap[k]? = w.heap[k]?):w'.ownsRow B e s v n xs:=by
 refine ⟨h.1,?_⟩
 rcases h.2 with h2 | ⟨g,cap,cur,hv,hB,hg,r⟩
 · exact .inl h2
 · exact .inr ⟨g,cap,cur,hv,hB,by rw [hk g (by rw [hv];rfl)];exact hg,r⟩
theorem owns_chg {w w':World} {S:Nat→Prop} {B e s n:Nat} {v:Value} {xs:List Value} (h:w.ownsRow B e s v n xs) (hc:Chg w w' S) (hs:∀ k,v.ownBlock=some k→¬ S k):w'.ownsRow B e s v n xs :=
 owns_same h (fun k hk=>hc.block k (h.lt k hk).2 (hs k hk))
theorem owns_kind {w:World} {B e s n k:Nat} {v:Value} {xs:List Value} (h:w.ownsRow B e s v n xs) (hk:v.ownBlock=some k):∃ cur,w.heap[k]? = some (.cells cur e (0,0)):=by
 rcases h.2 with ⟨rfl,_⟩ | ⟨g,cap,cur,rfl,_,hg,_⟩
 · cases hk
 · simp only [Value.ownBlock,Option.some.injEq] at hk
   subst hk
   exact ⟨cur,hg⟩
theorem kept_chg {W w1:World} {b:Nat} {o:Obj} {S:Nat→Prop} (hc:Chg W w1 S) (h:W.heap[b]? = some o) (hs:¬ S b):w1.heap[b]? = some o:=by
 rw [hc.block b (Array.getElem?_eq_some_iff.1 h).1 hs];exact h
theorem cellN {w:World} {g b i j:Nat} {x:Value} (hne:b≠g):(w.setCell ⟨g,j,none⟩ x).cell? ⟨b,i,none⟩=w.cell? ⟨b,i,none⟩:=by
 rw [World.cell?_of_block (w:=w) (Below.heap_setCell w ⟨g,j,none⟩ x b hne)]
theorem alloc3_new (w:World) (A B C:Obj):(((w.alloc A).alloc B).alloc C).heap[w.heap.size+1+1]? = some C:=by
 have:=heap_alloc_new ((w.alloc A).alloc B) C
 simpa using this
theorem below_drew {B:Nat} {w W:World} (h:Below B w W):Below B w W.drew:=⟨h.os,h.tape,h.output,h.size,h.block⟩
theorem of_drew {W w1:World} (h:Below W.drew.heap.size W.drew w1):Below W.heap.size W w1:=⟨h.os,h.tape,h.output,h.size,h.block⟩
structure ReqAt (w:World) (base rb mb n:Nat) (D:DataW Value) (s st:Int) (chV:Value) (cn:Nat) (cs:List Value):Prop where
 box:w.heap[rb]? = some (.cells #[.int .i64 s,.int .i64 st,.map (some mb),chV] 101 (0,0))
 map:MapAt w mb n D
 row:w.ownsRow base 69 4 chV cn cs
 base_le:base≤w.heap.size
theorem ReqAt.ne {w:World} {base rb mb n:Nat} {D:DataW Value} {s st:Int} {chV:Value} {cn:Nat} {cs:List Value} (h:ReqAt w base rb mb n D s st chV cn cs):rb≠mb∧chV.ownBlock≠some rb∧chV.ownBlock≠some mb:=by
 obtain ⟨es,clock,hb,_⟩:=h.map
 refine ⟨fun e=>?_,fun e=>?_,fun e=>?_⟩
 · have:=h.box;rw [e,hb] at this;cases this
 · obtain ⟨cur,hc⟩:=owns_kind h.row e
   have:=h.box
   rw [hc] at this
   simp at this
 · obtain ⟨cur,hc⟩:=owns_kind h.row e
   rw [hb] at hc;cases hc
theorem ReqAt.below {w w':World} {base rb mb n:Nat} {D:DataW Value} {s st:Int} {chV:Value} {cn:Nat} {cs:List Value} (h:ReqAt w base rb mb n D s st chV cn cs) (hb:Below w.heap.size w w'):ReqAt w' base rb mb n D s st chV cn cs :=
 ⟨kept_block hb h.box,map_below h.map hb,owns_chg h.row (Chg.of_below hb (fun _=>False)) (fun _ _=>id),Nat.le_trans h.base_le hb.size⟩
theorem ReqAt.lt {w:World} {base rb mb n:Nat} {D:DataW Value} {s st:Int} {chV:Value} {cn:Nat} {cs:List Value} (h:ReqAt w base rb mb n D s st chV cn cs):rb<w.heap.size∧mb<w.heap.size:=⟨(Array.getElem?_eq_some_iff.1 h.box).1,h.map.lt⟩
theorem ReqAt.put {w w':World} {base rb mb n n':Nat} {D D':DataW Value} {s st:Int} {chV:Value} {cn:Nat} {cs:List Value} (h:ReqAt w base rb mb n D s st chV cn cs) (hm:MapAt w' mb n' D') (hc:Chg w w' (fun k=>k=mb)):ReqAt w' base rb mb n' D' s st chV cn cs :=
 ⟨kept_chg hc h.box h.ne.1,hm,owns_chg h.row hc (fun k hk e=>h.ne.2.2 (e ▸ hk)),Nat.le_trans h.base_le hc.size⟩
theorem putC_7 {w:World} {g:Nat} {x0 x1 x2 x3 x4 x5 x6:Value}:Chg w (put_7 w g x0 x1 x2 x3 x4 x5 x6) (fun k=>k=g) :=
 ((((((Chg.set w ⟨g,0,none⟩ x0).trans (Chg.set _ ⟨g,1,none⟩ x1)).trans (Chg.set _ ⟨g,2,none⟩ x2)).trans (Chg.set _ ⟨g,3,none⟩ x3)).trans (Chg.set _ ⟨g,4,none⟩ x4)).trans (Chg.set _ ⟨g,5,none⟩ x5)).trans (Chg.set _ ⟨g,6,none⟩ x6)
theorem ReqAt.chg {w w':World} {S:Nat→Prop} {base rb mb n:Nat} {D:DataW Value} {s st:Int} {chV:Value} {cn:Nat} {cs:List Value} (h:ReqAt w base rb mb n D s st chV cn cs) (hc:Chg w w' S) (h1:¬ S rb) (h2:¬ S mb) (h3:∀ k,chV.ownBlock=some k→¬ S k):ReqAt w' base rb mb n D s st chV cn cs :=
 ⟨kept_chg hc h.box h1,map_chg h.map hc h2,owns_chg h.row hc h3,Nat.le_trans h.base_le hc.size⟩
theorem ReqAt.appended {w w1:World} {base rb mb n g cap:Nat} {D:DataW Value} {s st:Int} {chV:Value} {cn:Nat} {cs news:List Value} {o:Obj} (h:ReqAt w base rb mb n D s st chV cn cs)
  (hown:w1.ownsRow base 69 4 (.slice (some ⟨g,0,none⟩) (cn+1) cap) (cn+1) (cs ++ news)) (hgrow:(w.alloc o).grownBy w1 chV.ownBlock) :
  w1.heap[rb]? = some (.cells #[.int .i64 s,.int .i64 st,.map (some mb),chV] 101 (0,0))∧ReqAt (w1.setCell ⟨rb,3,none⟩ (.slice (some ⟨g,0,none⟩) (cn+1) cap)) base rb mb n D s st (.slice (some ⟨g,0,none⟩) (cn+1) cap) (cn+1) (cs ++ news) ∧
   Chg w (w1.setCell ⟨rb,3,none⟩ (.slice (some ⟨g,0,none⟩) (cn+1) cap)) (fun k=>k=rb∨chV.ownBlock=some k):=by
 have hc1:Chg w w1 (fun k=>chV.ownBlock=some k):=(Chg.alloc w o _).trans (Chg.grown hgrow)
 have hbox:w1.heap[rb]? = some (.cells #[.int .i64 s,.int .i64 st,.map (some mb),chV] 101 (0,0)):=kept_chg hc1 h.box h.ne.2.1
 have hgne:g≠rb:=fun e=>by
  obtain ⟨cur,hcur⟩:=owns_kind hown (k:=g) rfl
  rw [e,hbox] at hcur
  simp at hcur
 have hc2:Chg w1 (w1.setCell ⟨rb,3,none⟩ (.slice (some ⟨g,0,none⟩) (cn+1) cap)) (fun k=>k=rb):=Chg.set w1 ⟨rb,3,none⟩ _
 refine ⟨hbox,⟨same_blk hbox rfl,map_chg (map_chg h.map hc1 h.ne.2.2) hc2 (fun e=>h.ne.1 e.symm),owns_chg hown hc2 (fun k hk e=>?_),?_⟩,(hc1.mono (fun k _ e=>.inr e)).trans (hc2.mono (fun k _ e=>.inl e))⟩
 · have:g=k:=Option.some.inj hk
   exact hgne (this.trans e)
 · exact Nat.le_trans h.base_le (Nat.le_trans hc1.size hc2.size)
set_option maxHeartbeats 32000000 in
set_option maxRecDepth 100000 in
theorem make_plain (base rb mb n:Nat) (D:DataW Value) (s st:Int) (chV:Value) (cn:Nat) (cs:List Value) (p d:ByteArray) (v:Int) (pp pd:ByteArray) (pv pm pc pk:Int) (zp zd:ByteArray) (zv zm zc zo zk:Int) (w:World) (hg:GroundT w)
  (hR:ReqAt w base rb mb n D s st chV cn cs) (hpl:look D (parB p)=fuV pp pd pv pm pc 0 pk) (hph:Maps.has D (ky (parB p))=true) (hnl:look D p=fuV zp zd zv zm zc zo zk) (hnh:Maps.has D (ky p)=false) (hfull:Maps.size D<64)
  (h1:p.size≤1000) (h2:d.size≤1000) (h3:pp.size≤1000) (h4:pd.size≤1000) (h5:(parB p).size≤1000) (hn:n≤10000) (hcn:cn≤1000) :
  Calls Tryz.prog 62 #[.pointer (some ⟨rb,0,none⟩),opV 1 p d v 0] w fun e w'=>e=.returned (.tuple #[.agg #[.string p,.string ⟨#[]⟩,.int .i64 0,.int .i64 st,.int .i64 st,.int .i64 0,.slice none 0 0],.int .i64 0]) ∧
   ∃ chV',ReqAt w' base rb mb (n+1+1) ((D.put (ky pp) (.held (fuV pp pd pv pm pc 0 pk))).put (ky p) (.held (fuV p d 0 st st 0 0))) s st chV' (cn+1) (cs ++ [.int .i64 1,.string p,.string d,.int .i64 0])∧(chV'.ownBlock=chV.ownBlock∨∃ g,chV'.ownBlock=some g∧w.heap.size≤g)∧Chg w w' (fun k=>k=rb∨k=mb∨chV.ownBlock=some k):=by
 obtain ⟨i0,hi0,hz0,hz1,hz2⟩:=info_parts Tryz.infoC
 have HR:Hid _:=hR
 have HG:Hid _:=hg
 have hrl:=hR.lt.1
 have hml:=hR.lt.2
 have HBA:Hid _:=hR.base_le
 have HPL:Hid _:=hpl
 have HPH:Hid _:=hph
 have HNL:Hid _:=hnl
 have HNH:Hid _:=hnh
 have HS:Hid (0≤Maps.size D∧Maps.size D<64):=⟨Nat.zero_le _,hfull⟩
 have HPA:Hid (∀ W,GroundT W→MapAt W mb n D→Calls Tryz.prog 40 #[.map (some mb),.string p] W fun e w'=>e=.returned (.tuple #[fuV pp pd pv pm pc 0 pk,.bool true])∧Below W.heap.size W w'):=fun W hW hM=>parent_map mb n D p pp pd pv pm pc 0 pk true W hW hM (by unfold maxLen;omega) hpl hph
 have HCO:Hid (∀ W,GroundT W→Calls Tryz.prog 86 #[opV 1 p d v 0] W fun e w'=>e=.returned (.bool false)∧Below W.heap.size W w'):=fun W h=>isCounted_any (k:=1) (by decide) (by decide) p d v 0 (fun _=>by decide) W h
 have HBR:Hid (∀ W,GroundT W→Calls Tryz.prog 87 #[opV 1 p d v 0] W fun e w'=>e=.returned (.bool false)∧Below W.heap.size W w'):=fun W h=>isBriefOp_any (k:=1) (by decide) (by decide) p d v 0 (fun _=>by decide) W h
 have HIB:Hid (∀ W,Calls Tryz.prog 39 #[fuV pp pd pv pm pc 0 pk] W fun e w'=>e=.returned (.bool false)∧Below W.heap.size W w'):=fun W=>fIsBrief_any pp pd pv pm pc 0 pk W
 have hkey:keyOf Tryz.prog 9 (.string p)=some (ky p):=WideMaps.keyOf_string_mk Tryz.underlying9 (by unfold maxLen;omega)
 obtain ⟨r0,r1,r2,r3⟩:=cells_4 hR.box
 clear hR hg hpl hph hnl hnh hfull
 go_enter Tryz.func62,Tryz.ntmps62
 go_wp2
 have HW0:Hid (Below w.heap.size w ((w.alloc (.cells #[.int .i64 1,.string p,.string d,.int .i64 v,.int .i64 0] 66)).alloc (.cells #[.string ⟨#[]⟩,.string ⟨#[]⟩,.int .i64 0,.int .i64 0,.int .i64 0,.int .i64 0,.slice none 0 0] 103))):=((Below.refl _ _).alloc (Nat.le_refl _) _).alloc (by simp) _
 have HW1:Hid (Below w.heap.size w (((w.alloc (.cells #[.int .i64 1,.string p,.string d,.int .i64 v,.int .i64 0] 66)).alloc (.cells #[.string ⟨#[]⟩,.string ⟨#[]⟩,.int .i64 0,.int .i64 0,.int .i64 0,.int .i64 0,.slice none 0 0] 103)).alloc (.cells #[.string ⟨#[]⟩,.string ⟨#[]⟩,.int .i64 0,.int .i64 0,.int .i64 0,.int .i64 0,.int .i64 0] 27))):=HW0.out.alloc (by simp;omega) _
 have HO0:Hid ((((w.alloc (.cells #[.int .i64 1,.string p,.string d,.int .i64 v,.int .i64 0] 66)).alloc (.cells #[.string ⟨#[]⟩,.string ⟨#[]⟩,.int .i64 0,.int .i64 0,.int .i64 0,.int .i64 0,.slice none 0 0] 103)).alloc (.cells #[.string ⟨#[]⟩,.string ⟨#[]⟩,.int .i64 0,.int .i64 0,.int .i64 0,.int .i64 0,.int .i64 0] 27)).drew.heap[w.heap.size]? = some (.cells #[.int .i64 1,.string p,.string d,.int .i64 v,.int .i64 0] 66 (0,0))):=new_old (heap_alloc2_old _ _ _) _
 have HK2:Hid ((((w.alloc (.cells #[.int .i64 1,.string p,.string d,.int .i64 v,.int .i64 0] 66)).alloc (.cells #[.string ⟨#[]⟩,.string ⟨#[]⟩,.int .i64 0,.int .i64 0,.int .i64 0,.int .i64 0,.slice none 0 0] 103)).alloc (.cells #[.string ⟨#[]⟩,.string ⟨#[]⟩,.int .i64 0,.int .i64 0,.int .i64 0,.int .i64 0,.int .i64 0] 27)).drew.cell? ⟨rb,2,none⟩=some (.map (some mb))):=(cells_4 (HR.out.below (below_drew HW1.out)).box).2.2.1
 have HK1:Hid ((((w.alloc (.cells #[.int .i64 1,.string p,.string d,.int .i64 v,.int .i64 0] 66)).alloc (.cells #[.string ⟨#[]⟩,.string ⟨#[]⟩,.int .i64 0,.int .i64 0,.int .i64 0,.int .i64 0,.slice none 0 0] 103)).alloc (.cells #[.string ⟨#[]⟩,.string ⟨#[]⟩,.int .i64 0,.int .i64 0,.int .i64 0,.int .i64 0,.int .i64 0] 27)).drew.cell? ⟨w.heap.size,1,none⟩=some (.string p)):=(cells_5 HO0.out).2.1
 have q1:rb≠w.heap.size:=by omega
 have q2:rb≠w.heap.size+1:=by omega
 have q6:w.heap.size≠w.heap.size+1+1:=by omega
 have q3:rb≠w.heap.size+1+1:=by omega
 go_cut [6,7] from 12 (fun s6 s7 wc=>∃ pb,s6=.pointer (some ⟨pb,0,none⟩)∧s7=.bool true∧w.heap.size+1<pb∧Hid (Below w.heap.size w wc)∧Hid (wc.heap[w.heap.size]? = some (.cells #[.int .i64 1,.string p,.string d,.int .i64 v,.int .i64 0] 66 (0,0)))∧Hid (wc.heap[w.heap.size+1]? = some (.cells #[.string ⟨#[]⟩,.string ⟨#[]⟩,.int .i64 0,.int .i64 0,.int .i64 0,.int .i64 0,.slice none 0 0] 103 (0,0)))∧Hid (wc.heap[pb]? = some (.cells #[.string pp,.string pd,.int .i64 pv,.int .i64 pm,.int .i64 pc,.int .i64 0,.int .i64 pk] 27 (0,0))))
 case first =>
  go_region_held3 (fun w'=>w'.cell? ⟨rb,2,none⟩=some (.map (some mb))∧w'.cell? ⟨w.heap.size,1,none⟩=some (.string p)) (first | (rw [HK2.out,HK1.out];exact ⟨rfl,rfl⟩) | (simp only [cellN q3,cellN q6,r2,o1,and_self]) | go_keep)
   (first
     | (go_at_call 40;go_fit (HPA.out _ (HG.out.below (below_drew HW0.out)) (map_below HR.out.map (below_drew HW0.out)));rintro e w1 ⟨rfl,hb1⟩
        have hb1':=of_drew hb1
        have HB1:Hid (Below w.heap.size w w1):=trans2 HW0.out hb1'
        have HO1:Hid (w1.heap[w.heap.size]? = some (.cells #[.int .i64 1,.string p,.string d,.int .i64 v,.int .i64 0] 66 (0,0))):=kept_block hb1' (heap_alloc2_old _ _ _)
        have HZ1:Hid (w1.heap[w.heap.size+1]? = some (.cells #[.string ⟨#[]⟩,.string ⟨#[]⟩,.int .i64 0,.int .i64 0,.int .i64 0,.int .i64 0,.slice none 0 0] 103 (0,0))):=kept_block hb1' (heap_alloc2_new _ _ _)
        have hz1:w.heap.size+1<w1.heap.size:=(Array.getElem?_eq_some_iff.1 HZ1.out).1
        have q4:rb≠w1.heap.size:=by omega
        have q5:w.heap.size≠w1.heap.size:=by omega
        clear hb1 hb1' r0 r1 r2 r3
        obtain ⟨o0,o1,o2,o3,o4⟩:=cells_5 HO1.out
        obtain ⟨r0,r1,r2,r3⟩:=cells_4 (HR.out.below HB1.out).box)
     | (go_at_call 40;go_fit (HPA.out _ (HG.out.below (below_drew HW1.out)) (map_below HR.out.map (below_drew HW1.out)));rintro e w1 ⟨rfl,hb1⟩
        have hb1':=of_drew hb1
        have HB1:Hid (Below w.heap.size w w1):=trans2 HW1.out hb1'
        have HO1:Hid (w1.heap[w.heap.size]? = some (.cells #[.int .i64 1,.string p,.string d,.int .i64 v,.int .i64 0] 66 (0,0))):=kept_block hb1' (new_old (heap_alloc2_old _ _ _) _)
        have HZ1:Hid (w1.heap[w.heap.size+1]? = some (.cells #[.string ⟨#[]⟩,.string ⟨#[]⟩,.int .i64 0,.int .i64 0,.int .i64 0,.int .i64 0,.slice none 0 0] 103 (0,0))):=kept_block hb1' (new_old (heap_alloc2_new _ _ _) _)
        have HV1:Hid (w1.heap[w.heap.size+1+1]? = some (.cells #[.string ⟨#[]⟩,.string ⟨#[]⟩,.int .i64 0,.int .i64 0,.int .i64 0,.int .i64 0,.int .i64 0] 27 (0,0))):=kept_block hb1' (alloc3_new _ _ _ _)
        clear hb1 hb1' r0 r1 r2 r3
        obtain ⟨o0,o1,o2,o3,o4⟩:=cells_5 HO1.out
        obtain ⟨v0,v1,v2,v3,v4,v5,v6⟩:=cells_7 HV1.out
        have hv:=free_7 HV1.out
        clear o0 o2 o3 o4
        have r2:=(cells_4 (HR.out.below HB1.out).box).2.2.1
        clear q1 q2 h1 h2 h3 h4 h5 hn hcn hi0 hz0 hz1 hz2 hkey hml))
  · go_wp2_with fail
    go_meet
    case rel=>exact ⟨_,rfl,rfl,hz1,HB1.out.alloc (by have:=HB1.out.size;omega) _,new_old HO1.out _,new_old HZ1.out _,heap_alloc_new _ _⟩
  · go_wp2_with fail
    go_meet
    case rel=>exact ⟨_,rfl,rfl,by omega,fillB_7 HB1.out (by omega),fillO_7 HO1.out (by omega),fillO_7 HZ1.out (by omega),fill_7 HV1.out⟩
 case rest =>
  obtain ⟨pb,rfl,rfl,hpb,HB,HO,HZ,HP⟩:=hcut
  clear HW0 HW1 HO0 HK1 HK2 HPA q1 q2 q3 q6 r0 r1 r2 r3
  have HRc:Hid _:=HR.out.below HB.out
  have HGc:Hid _:=HG.out.below HB.out
  obtain ⟨a0,a1,a2,a3,a4,a5,a6⟩:=cells_7 HP.out
  go_wp2_with fail
  refine (HIB.out _).mono ?_
  rintro e w2 ⟨rfl,hb2⟩
  have HB2:Hid _:=trans2 HB.out hb2
  have HR2:Hid _:=HRc.out.below hb2
  have HG2:Hid _:=HGc.out.below hb2
  have HO2:Hid _:=kept_block hb2 HO.out
  have HZ2:Hid _:=kept_block hb2 HZ.out
  have HP2:Hid _:=kept_block hb2 HP.out
  clear hb2 a0 a1 a2 a3 a4 a5 a6
  obtain ⟨o0,o1,o2,o3,o4⟩:=cells_5 HO2.out
  go_wp2_with fail
  refine (HCO.out _ HG2.out).mono ?_
  rintro e w3 ⟨rfl,hb3⟩
  have HB3:Hid _:=trans2 HB2.out hb3
  have HR3:Hid _:=HR2.out.below hb3
  have HG3:Hid _:=HG2.out.below hb3
  have HO3:Hid _:=kept_block hb3 HO2.out
  have HZ3:Hid _:=kept_block hb3 HZ2.out
  have HP3:Hid _:=kept_block hb3 HP2.out
  have hrl3:rb<w3.heap.size:=HR3.out.lt.1
  have hol3:w.heap.size<w3.heap.size:=(Array.getElem?_eq_some_iff.1 HO3.out).1
  have hpl3:pb<w3.heap.size:=(Array.getElem?_eq_some_iff.1 HP3.out).1
  have hzl3:w.heap.size+1<w3.heap.size:=(Array.getElem?_eq_some_iff.1 HZ3.out).1
  clear hb3 o0 o1 o2 o3 o4
  obtain ⟨r0,r1,r2,r3⟩:=cells_4 HR3.out.box
  have HSL:Hid (((Maps.size D:Nat):Int)<64):=by have:=HS.out.2;show _<_;omega
  go_wp2_with (first
   | (at_lookup;refine wpList_lookup_own_ok _ rfl _ _ 52 rfl 9 27 keyed Tryz.underlying52 raw (zeroF _) (.held zf) [] rfl mb n D rfl HR3.out.map _ (ky p) rfl hkey ?_;intro u ps hu;obtain rfl:=look_of hu;rw [HNL.out,HNH.out];clear hu)
   | (at_len;refine wpList_len_own _ rfl _ 52 rfl 9 27 Tryz.underlying52 raw mb n D rfl (World.ownsMap.alloc HR3.out.map _) ?_;have hsl:=HSL.out)
   | fail)
  generalize hw4:w3.alloc (.cells #[.string zp,.string zd,.int .i64 zv,.int .i64 zm,.int .i64 zc,.int .i64 zo,.int .i64 zk] 27)=w4
  have hb4:Below w3.heap.size w3 w4:=by rw [← hw4];exact (Below.refl _ _).alloc (Nat.le_refl _) _
  have HB4:Hid _:=trans2 HB3.out hb4
  have HR4:Hid _:=HR3.out.below hb4
  have HG4:Hid _:=HG3.out.below hb4
  have HO4:Hid _:=kept_block hb4 HO3.out
  have HZ4:Hid _:=kept_block hb4 HZ3.out
  have HP4:Hid _:=kept_block hb4 HP3.out
  clear hb4 hw4 r0 r1 r2 r3 hrl3 hol3 hpl3 hzl3
  obtain ⟨r0,r1,r2,r3⟩:=cells_4 HR4.out.box
  obtain ⟨o0,o1,o2,o3,o4⟩:=cells_5 HO4.out
  have hrl4:rb<w4.heap.size:=HR4.out.lt.1
  have hol4:w.heap.size<w4.heap.size:=(Array.getElem?_eq_some_iff.1 HO4.out).1
  have q1:rb≠w4.heap.size:=by omega
  have q2:w.heap.size≠w4.heap.size:=by omega
  go_cut [11] from 12 (fun s11 wc=>∃ nb,s11=.pointer (some ⟨nb,0,none⟩)∧w4.heap.size≤nb∧Hid (Below w4.heap.size w4 wc)∧Hid (wc.heap[nb]? = some (.cells #[.string p,.string d,.int .i64 0,.int .i64 st,.int .i64 st,.int .i64 0,.int .i64 0] 27 (0,0))))
  case first =>
   go_region_held3 (fun w'=>w'.cell? ⟨rb,1,none⟩=some (.int .i64 st)∧w'.cell? ⟨w.heap.size,2,none⟩=some (.string d)) (go_keep) (fail)
   go_wp2_with fail
   go_meet
   case rel=>exact ⟨_,rfl,Nat.le_refl _,below_drew ((Below.refl _ _).alloc (Nat.le_refl _) _),heap_alloc_new _ _⟩
  case rest =>
   obtain ⟨nb,rfl,hnb,HB5',HN5⟩:=hcut
   have HB5:Hid _:=trans2 HB4.out HB5'.out
   have HR5:Hid _:=HR4.out.below HB5'.out
   have HG5:Hid _:=HG4.out.below HB5'.out
   have HO5:Hid _:=kept_block HB5'.out HO4.out
   have HZ5:Hid _:=kept_block HB5'.out HZ4.out
   have HP5:Hid _:=kept_block HB5'.out HP4.out
   clear r0 r1 r2 r3 o0 o1 o2 o3 o4 q1 q2
   obtain ⟨o0,o1,o2,o3,o4⟩:=cells_5 HO5.out
   go_wp2_with fail
   refine (HBR.out _ HG5.out).mono ?_
   rintro e w6 ⟨rfl,hb6⟩
   have HB6:Hid _:=trans2 HB5.out hb6
   have HR6:Hid _:=HR5.out.below hb6
   have HG6:Hid _:=HG5.out.below hb6
   have HO6:Hid _:=kept_block hb6 HO5.out
   have HZ6:Hid _:=kept_block hb6 HZ5.out
   have HP6:Hid _:=kept_block hb6 HP5.out
   have HN6:Hid _:=kept_block hb6 HN5.out
   clear hb6 o0 o1 o2 o3 o4
   obtain ⟨r0,r1,r2,r3⟩:=cells_4 HR6.out.box
   obtain ⟨a0,a1,a2,a3,a4,a5,a6⟩:=cells_7 HP6.out
   go_wp2_with fail
   have HM7:Hid _:=put_any mb (n) (D) pp pd pv pm pc 0 pk (by omega) (by omega) w6.drew (HR6.out.below (below_drew (Below.refl _ _))).map (by omega)
   go_region_held3 (fun w'=>w'.cell? ⟨rb,2,none⟩=some (.map (some mb))∧w'.cell? ⟨pb,0,none⟩=some (.string pp)∧w'.cell? ⟨pb,1,none⟩=some (.string pd)∧w'.cell? ⟨pb,2,none⟩=some (.int .i64 pv)∧w'.cell? ⟨pb,3,none⟩=some (.int .i64 pm)∧w'.cell? ⟨pb,4,none⟩=some (.int .i64 pc)∧w'.cell? ⟨pb,5,none⟩=some (.int .i64 0)∧w'.cell? ⟨pb,6,none⟩=some (.int .i64 pk)) (first | (simp only [World.cell?_drew,r2,a0,a1,a2,a3,a4,a5,a6,and_self]) | go_keep)
    (first
      | (go_at_call 16;refine Calls.mono HM7.out ?_;rintro e w7 ⟨rfl,hm7,hc7⟩
         have HR7:Hid _:=(HR6.out.below (below_drew (Below.refl _ _))).put hm7 hc7
         have HC7:Hid (Chg w w7 (fun k=>k=mb)):=(Chg.of_below (below_drew HB6.out) _).trans hc7
         have HZ7:Hid _:=kept_chg hc7 HZ6.out (by omega)
         have HP7:Hid _:=kept_chg hc7 HP6.out (by omega)
         have HN7:Hid _:=kept_chg hc7 HN6.out (by omega)
         clear hm7 hc7 r0 r1 r2 r3 a0 a1 a2 a3 a4 a5 a6
         obtain ⟨r0,r1,r2,r3⟩:=cells_4 HR7.out.box
         obtain ⟨a0,a1,a2,a3,a4,a5,a6⟩:=cells_7 HP7.out))
   clear a0 a1 a2 a3 a4 a5 a6
   obtain ⟨a0,a1,a2,a3,a4,a5,a6⟩:=cells_7 HN7.out
   go_wp2_with fail
   have HM8:Hid _:=put_any mb (n+1) (D.put (ky pp) (.held (fuV pp pd pv pm pc 0 pk))) p d 0 st st 0 0 (by omega) (by omega) w7.drew (HR7.out.below (below_drew (Below.refl _ _))).map (by omega)
   go_region_held3 (fun w'=>w'.cell? ⟨rb,2,none⟩=some (.map (some mb))∧w'.cell? ⟨nb,0,none⟩=some (.string p)∧w'.cell? ⟨nb,1,none⟩=some (.string d)∧w'.cell? ⟨nb,2,none⟩=some (.int .i64 0)∧w'.cell? ⟨nb,3,none⟩=some (.int .i64 st)∧w'.cell? ⟨nb,4,none⟩=some (.int .i64 st)∧w'.cell? ⟨nb,5,none⟩=some (.int .i64 0)∧w'.cell? ⟨nb,6,none⟩=some (.int .i64 0)) (first | (simp only [World.cell?_drew,r2,a0,a1,a2,a3,a4,a5,a6,and_self]) | go_keep)
    (first
      | (go_at_call 16;refine Calls.mono HM8.out ?_;rintro e w8 ⟨rfl,hm8,hc8⟩
         have HR8:Hid _:=(HR7.out.below (below_drew (Below.refl _ _))).put hm8 hc8
         have HC8:Hid (Chg w w8 (fun k=>k=mb)):=HC7.out.trans ((Chg.of_below (below_drew (Below.refl _ _)) _).trans hc8)
         have HZ8:Hid _:=kept_chg hc8 HZ7.out (by omega)
         have HN8:Hid _:=kept_chg hc8 HN7.out (by omega)
         clear hm8 hc8 r0 r1 r2 r3 a0 a1 a2 a3 a4 a5 a6
         obtain ⟨r0,r1,r2,r3⟩:=cells_4 HR8.out.box
         obtain ⟨a0,a1,a2,a3,a4,a5,a6⟩:=cells_7 HN8.out))
   go_wp2_with fail
   have HCH:Hid _:=change_any p d 0 st st 0 0 1 (by omega) (by omega)
   have hbn:base≤w8.heap.size:=HR8.out.base_le
   have HEN:Hid (∀ args w,(callFunc 76 args).run Tryz.prog w=.ok (.enter 76 args) w):=enters_of Tryz.func76 (by kernel_rfl) rfl
   have hnl8:nb<w8.heap.size:=(Array.getElem?_eq_some_iff.1 HN8.out).1
   go_cut [11] from 12 (fun s11 wc=>s11=.pointer (some ⟨nb,0,none⟩)∧∃ chV',Hid (ReqAt wc base rb mb (n+1+1) ((D.put (ky pp) (.held (fuV pp pd pv pm pc 0 pk))).put (ky p) (.held (fuV p d 0 st st 0 0))) s st chV' (cn+1) (cs ++ [.int .i64 1,.string p,.string d,.int .i64 0]))∧Hid (chV'.ownBlock=chV.ownBlock∨∃ g,chV'.ownBlock=some g∧w.heap.size≤g)∧Hid (Chg w wc (fun k=>k=rb∨k=mb∨chV.ownBlock=some k))∧Hid (wc.heap[w.heap.size+1]? = some (.cells #[.string ⟨#[]⟩,.string ⟨#[]⟩,.int .i64 0,.int .i64 0,.int .i64 0,.int .i64 0,.slice none 0 0] 103 (0,0)))∧Hid (wc.heap[nb]? = some (.cells #[.string p,.string d,.int .i64 0,.int .i64 st,.int .i64 st,.int .i64 0,.int .i64 0] 27 (0,0))))
   case first =>
    go_region_law
     (first
       | (refine step_call2 (by rfl) 76 _ _ _ (by rfl) HEN.out (fuV p d 0 st st 0 0) (.int .i64 1) (by rfl) (by rfl) (HCH.out _) (.agg #[.int .i64 1,.string p,.string d,.int .i64 0]) (fun _ _ h=>h.1) ?_
          intro w9 hR9
          have hb9:=hR9.2
          clear hR9
          have hb9':=of_drew hb9
          have HR9:Hid _:=HR8.out.below hb9'
          have HC9:Hid _:=HC8.out.trans (Chg.of_below hb9' _)
          have HZ9:Hid _:=kept_block hb9' HZ8.out
          have HN9:Hid _:=kept_block hb9' HN8.out
          have hrl9:rb<w9.heap.size:=HR9.out.lt.1
          have hnl9:nb<w9.heap.size:=(Array.getElem?_eq_some_iff.1 HN9.out).1
          have hzl9:w.heap.size+1<w9.heap.size:=(Array.getElem?_eq_some_iff.1 HZ9.out).1
          have qr:rb≠w9.heap.size:=by omega
          have qn9:nb≠w9.heap.size:=by omega
          have hba9:base≤w9.heap.size:=HR9.out.base_le
          clear hb9 hb9' r0 r1 r2 r3 a0 a1 a2 a3 a4 a5 a6
          obtain ⟨r0,r1,r2,r3⟩:=cells_4 HR9.out.box
          obtain ⟨a0,a1,a2,a3,a4,a5,a6⟩:=cells_7 HN9.out)
       | (refine step_append_lies _ (by rfl) _ _ _ (by rfl) base 69 i0 _ 4 48 Tryz.underlying62 hi0 hz0 hz1 hz2 rfl (by omega) chV cn cs (by rfl) (World.ownsRow.alloc HR9.out.row _) ⟨w9.heap.size,0,none⟩ 1 1 [.int .i64 1,.string p,.string d,.int .i64 0] (by rfl) (by rfl) (World.news_of_block (cs:=#[.int .i64 1,.string p,.string d,.int .i64 0]) (t:=69) (fr:=(0,0)) (heap_alloc_new w9 _)) (by simp [Value.oneCell']) (by omega) (by unfold maxLen;omega) (by omega) (by simp;omega) (w9.heap.size+1) (by simp) ?_
          intro g cap w10 hown10 hgrow10 hat10 hlt10
          have happ:=ReqAt.appended HR9.out hown10 hgrow10
          have HX10:Hid _:=happ.1
          have HR10:Hid _:=happ.2.1
          have HC10:Hid _:=happ.2.2
          have HN10:Hid (w10.heap[nb]? = some (.cells #[.string p,.string d,.int .i64 0,.int .i64 st,.int .i64 st,.int .i64 0,.int .i64 0] 27 (0,0))):=by
           refine kept_chg ((Chg.alloc w9 _ _).trans (Chg.grown hgrow10)) HN9.out (fun e=>?_)
           obtain ⟨cur,hcur⟩:=owns_kind HR9.out.row e
           rw [HN9.out] at hcur
           simp at hcur
          have HZ10:Hid (w10.heap[w.heap.size+1]? = some (.cells #[.string ⟨#[]⟩,.string ⟨#[]⟩,.int .i64 0,.int .i64 0,.int .i64 0,.int .i64 0,.slice none 0 0] 103 (0,0))):=by
           refine kept_chg ((Chg.alloc w9 _ _).trans (Chg.grown hgrow10)) HZ9.out (fun e=>?_)
           obtain ⟨cur,hcur⟩:=owns_kind HR9.out.row e
           rw [HZ9.out] at hcur
           simp at hcur
          have HAT:Hid _:=hat10
          have qn:nb≠rb:=by omega
          clear hown10 hgrow10 hat10 hlt10 happ r0 r1 r2 r3 a0 a1 a2 a3 a4 a5 a6
          obtain ⟨r0,r1,r2,r3⟩:=cells_4 HX10.out
          have hfr:=free_4 HX10.out
          obtain ⟨a0,a1,a2,a3,a4,a5,a6⟩:=cells_7 HN10.out))
    all_goals
     go_wp2_with fail
     go_meet
     case rel=>exact ⟨rfl,_,HR10.out,(by rcases HAT.out with e | e;· exact .inl (by rw [e];rfl)
                                         · exact .inr ⟨g,rfl,by have e':g=w9.heap.size+1:=e;omega⟩),(HC9.out.mono (fun k _ e=>.inr (.inl e))).trans (HC10.out.mono (fun k _ e=>e.elim .inl (fun e=>.inr (.inr e)))),other_blk HZ10.out (by omega),other_blk HN10.out (by omega)⟩
   case rest =>
    obtain ⟨rfl,chV',HRf,HLf,HCf,HZf,HNf⟩:=hcut
    clear r0 r1 r2 r3 a0 a1 a2 a3 a4 a5 a6
    obtain ⟨a0,a1,a2,a3,a4,a5,a6⟩:=cells_7 HNf.out
    have HRE:Hid _:=result_any p d 0 st st 0 0 (by omega)
    go_wp2_with fail
    refine (HRE.out _).mono ?_
    rintro e w12 ⟨rfl,hb12⟩
    have HR12:Hid _:=HRf.out.below hb12
    have HC12:Hid _:=HCf.out.trans (Chg.of_below hb12 _)
    have HZ12:Hid _:=kept_block hb12 HZf.out
    clear hb12 a0 a1 a2 a3 a4 a5 a6
    obtain ⟨b0,b1,b2,b3,b4,b5,b6⟩:=cells_7 HZ12.out
    have hfz:=free_7 HZ12.out
    go_wp2_with fail
    have hml12:=HR.out.lt.2
    have hgb:∀ k,chV'.ownBlock=some k→¬ k=w.heap.size+1:=fun k hk e=>by
     obtain ⟨cur,hcur⟩:=owns_kind HR12.out.row hk
     rw [e,HZ12.out] at hcur
     simp at hcur
    refine bodyPost_ret (results_cell_tmp rfl _ _ (w.heap.size+1) 103 _ (0,0) _ (.int .i64 0) rfl rfl (fill_7 HZ12.out) Tryz.underlying103 rfl (by kernel_rfl)) rfl ⟨rfl,chV',HR12.out.chg putC_7 (by omega) (by omega) hgb,HLf.out,?_⟩
    exact ((HC12.out.mono (S':=fun k=>(k=rb∨k=mb∨chV.ownBlock=some k)∨k=w.heap.size+1) (fun _ _ h=>.inl h)).trans (putC_7.mono (fun _ _ h=>.inr h))).mono (fun k hk h=>h.elim id (fun e=>absurd hk (by omega)))
end Go.Proofs.YtckmihplkhmpnaaGreatDoor
namespace Go.Proofs.YtckmihplkhmpnaaGreatDoor.Fa
open Go.RowKit
set_option linter.unusedVariables false
set_option linter.unusedSimpArgs false
theorem cell_n {w:World} {B e s n g cap k:Nat} {xs:List Value} {x:Value} (h:w.ownsRow B e s (.slice (some ⟨g,0,none⟩) n cap) n xs) (hx:xs[k]? = some x):w.cell? ⟨g,k,none⟩=some x:=by
 have hk:k<xs.length:=(List.getElem?_eq_some_iff.1 hx).1
 rcases h.2 with ⟨h0,_⟩ | ⟨g',cap',cur,hv,_,hg,_,_,hsz,ht⟩
 · cases h0
 · cases hv
   have hkc:k<n * s:=by have:=h.1;omega
   have:cur[k]? = some x:=by
    rw [← hx,← ht,List.getElem?_take_of_lt hkc,Array.getElem?_toList]
   unfold World.cell?
   simp only [hg]
   exact this
theorem owns_set {w:World} {B e s n g cap k:Nat} {xs:List Value} (h:w.ownsRow B e s (.slice (some ⟨g,0,none⟩) n cap) n xs) (x:Value):(w.setCell ⟨g,k,none⟩ x).ownsRow B e s (.slice (some ⟨g,0,none⟩) n cap) n (xs.set k x):=by
 refine ⟨by rw [List.length_set];exact h.1,?_⟩
 rcases h.2 with ⟨h0,_⟩ | ⟨g',cap',cur,hv,hB,hg,hn,hc,hsz,ht⟩
 · cases h0
 · cases hv
   refine .inr ⟨g,cap,cur.setIfInBounds k x,rfl,hB,heap_setCell_same w g k cur e x hg,hn,hc,by simpa using hsz,?_⟩
   rw [← ht,Array.toList_setIfInBounds,List.take_set]
theorem flat_at {α:Type} {cells:α→List Value} {sz:Nat} (hsz:∀ x,(cells x).length=sz):∀ {L:List α} {i:Nat} {x:α} {j:Nat} {u:Value},L[i]? = some x→(cells x)[j]? = some u→(L.flatMap cells)[i * sz+j]? = some u
 | [],i,x,j,u,h,_=>by simp at h
 | y :: L,0,x,j,u,h,hu=>by
   obtain rfl:y=x:=by simpa using h
   rw [List.flatMap_cons,Nat.zero_mul,Nat.zero_add,List.getElem?_append_left (by rw [hsz];have:=(List.getElem?_eq_some_iff.1 hu).1;rw [hsz] at this;exact this)]
   exact hu
 | y :: L,i+1,x,j,u,h,hu=>by
   have h':L[i]? = some x:=by simpa using h
   rw [List.flatMap_cons,List.getElem?_append_right (by rw [hsz,Nat.add_mul];omega),hsz,show (i+1) * sz+j - sz=i * sz+j by rw [Nat.add_mul];omega]
   exact flat_at hsz h' hu
theorem flat_len {α:Type} {cells:α→List Value} {sz:Nat} (hsz:∀ x,(cells x).length=sz):∀ L:List α,(L.flatMap cells).length=L.length * sz
 | []=>by simp
 | y :: L=>by rw [List.flatMap_cons,List.length_append,hsz,flat_len hsz L,List.length_cons,Nat.add_mul];omega
abbrev El (sz:Nat):Type:={ e:List Value // e.length=sz∧∀ v∈e,v.oneCell'=true }
abbrev fl {sz:Nat} (l:List (El sz)):List Value:=l.flatMap (fun e=>e.1)
theorem fl_len {sz:Nat} (l:List (El sz)):(fl l).length=l.length * sz:=flat_len (cells:=fun e:El sz=>e.1) (fun e=>e.2.1) l
def setsL:List Value→Nat→List Value→List Value
 | xs,_,[]=>xs
 | xs,o,v :: vs=>setsL (xs.set o v) (o+1) vs
theorem setsL_get:∀ (e xs:List Value) (o j:Nat),(setsL xs o e)[j]? = if o≤j∧j<o+e.length∧j<xs.length then e[j - o]? else xs[j]?
 | [],xs,o,j=>by rw [setsL,if_neg (by simp;omega)]
 | v :: vs,xs,o,j=>by
   rw [setsL,setsL_get vs]
   simp only [List.length_set,List.length_cons]
   by_cases h1:o+1≤j∧j<o+1+vs.length∧j<xs.length
   · rw [if_pos h1,if_pos (by omega),show j - o=(j - (o+1))+1 by omega,List.getElem?_cons_succ]
   · rw [if_neg h1,List.getElem?_set]
     by_cases h2:o=j
     · subst h2
       by_cases h3:o<xs.length
       · rw [if_pos rfl,if_pos h3,if_pos (by omega),Nat.sub_self];rfl
       · rw [if_pos rfl,if_neg h3,if_neg (by omega),List.getElem?_eq_none (by omega)]
     · rw [if_neg h2,if_neg (by omega)]
theorem flat_get {sz:Nat} (h0:0<sz) (l:List (El sz)) (j:Nat):(fl l)[j]? = (l[j / sz]?).bind (fun e=>e.1[j % sz]?):=by
 by_cases hj:j / sz<l.length
 · have hm:j % sz<sz:=Nat.mod_lt _ h0
   obtain ⟨x,hx⟩:∃ x,l[j / sz]? = some x:=⟨_,List.getElem?_eq_getElem hj⟩
   have hl:=x.2.1
   obtain ⟨u,hu⟩:∃ u,x.1[j % sz]? = some u:=⟨_,List.getElem?_eq_getElem (by omega)⟩
   have:=flat_at (cells:=fun e:El sz=>e.1) (fun e=>e.2.1) hx hu
   rw [Nat.mul_comm,Nat.div_add_mod] at this
   rw [this,hx]
   simp [hu]
 · have hge:l.length * sz≤j:=by
    have h1:=Nat.div_add_mod j sz
    have h2:l.length * sz≤j / sz * sz:=Nat.mul_le_mul_right _ (by omega)
    rw [Nat.mul_comm] at h1
    omega
   rw [List.getElem?_eq_none (by rw [fl_len];exact hge),List.getElem?_eq_none (by omega)]
   rfl
theorem fl_set {sz:Nat} (h0:0<sz) (l:List (El sz)) (i:Nat) (e:El sz) (hi:i<l.length):fl (l.set i e)=setsL (fl l) (i * sz) e.1:=by
 apply List.ext_getElem?
 intro j
 have hm:j % sz<sz:=Nat.mod_lt _ h0
 have hd:=Nat.div_add_mod j sz
 rw [Nat.mul_comm] at hd
 rw [flat_get h0,setsL_get,flat_get h0,fl_len,e.2.1,List.getElem?_set]
 by_cases hk:i=j / sz
 · subst hk
   have hlt:j<l.length * sz:=by
    have h2:(j / sz+1) * sz≤l.length * sz:=Nat.mul_le_mul_right _ hi
    rw [Nat.add_mul] at h2
    omega
   rw [if_pos rfl,if_pos hi,if_pos ⟨by omega,by omega,hlt⟩,show j - j / sz * sz=j % sz by omega]
   rfl
 · rw [if_neg hk,if_neg]
   intro hh
   apply hk
   have h3:i * sz≤j:=hh.1
   have h4:j<(i+1) * sz:=by rw [Nat.add_mul];omega
   have e1:i≤j / sz:=(Nat.le_div_iff_mul_le h0).2 h3
   have e2:j / sz<i+1:=(Nat.div_lt_iff_lt_mul h0).2 h4
   omega
theorem owns_sets {B e s n g cap:Nat}:∀ (vs xs:List Value) (o:Nat) (w:World),w.ownsRow B e s (.slice (some ⟨g,0,none⟩) n cap) n xs→(w.setCells g o vs).ownsRow B e s (.slice (some ⟨g,0,none⟩) n cap) n (setsL xs o vs)
 | [],xs,o,w,h=>h
 | v :: vs,xs,o,w,h=>owns_sets vs (xs.set o v) (o+1) (w.setCell ⟨g,o,none⟩ v) (owns_set h v)
theorem row_sets {B T sz g cap:Nat} (h0:0<sz) {w:World} {l:List (El sz)} (h:w.ownsRow B T sz (.slice (some ⟨g,0,none⟩) l.length cap) l.length (fl l)) (i:Nat) (e:El sz) (hi:i<l.length):(w.setCells g (i * sz) e.1).ownsRow B T sz (.slice (some ⟨g,0,none⟩) l.length cap) (l.set i e).length (fl (l.set i e)):=by
 rw [List.length_set,fl_set h0 l i e hi]
 exact owns_sets e.1 _ _ w h
theorem owns_block {w:World} {B e s n g cap:Nat} {xs:List Value} (h:w.ownsRow B e s (.slice (some ⟨g,0,none⟩) n cap) n xs):∃ cur,w.heap[g]? = some (.cells cur e (0,0))∧cur.size=cap * s∧n≤cap:=by
 rcases h.2 with ⟨h0,_⟩ | ⟨g',cap',cur,hv,hB,hg,h1,h2,h3,h4⟩
 · cases h0
 · simp only [Value.slice.injEq,Option.some.injEq,Addr.mk.injEq,and_true,true_and] at hv
   obtain ⟨rfl,rfl⟩:=hv
   exact ⟨cur,hg,h3,h1⟩
theorem there_row {w:World} {B e s n g cap i:Nat} {xs:List Value} (h:w.ownsRow B e s (.slice (some ⟨g,0,none⟩) n cap) n xs) (hi:i<n):w.there g (i * s) s:=fun j hj=>by
 obtain ⟨cur,hg,hs,hc⟩:=owns_block h
 have h1:(i+1) * s≤cap * s:=Nat.mul_le_mul_right _ (by omega)
 rw [Nat.add_mul,Nat.one_mul] at h1
 have h2:i * s+j<cur.size:=by omega
 refine ⟨?_,?_⟩
 · simp [World.cell?,hg,h2]
 · simp [World.frozen?,hg]
theorem chg_setCells (b:Nat):∀ (vs:List Value) (o:Nat) (w:World),Chg w (w.setCells b o vs) (fun j=>j=b)
 | [],o,w=>Chg.refl _ _
 | v :: vs,o,w=>(Chg.set w ⟨b,o,none⟩ v).trans (chg_setCells b vs (o+1) (w.setCell ⟨b,o,none⟩ v))
end Go.Proofs.YtckmihplkhmpnaaGreatDoor.Fa
namespace Go.Proofs.YtckmihplkhmpnaaGreatDoor
open Go.RowKit Go.Maps
set_option linter.unusedVariables false
set_option linter.unusedSimpArgs false
set_option maxHeartbeats 16000000 in
set_option maxRecDepth 100000 in
theorem play_mal {k:Int} (h1:1≤k) (h7:k≤7) (base rb mb n:Nat) (D:DataW Value) (s st:Int) (chV:Value) (cn:Nat) (cs:List Value) (p d:ByteArray) (v f:Int) (hf:k=1→0≤f∧f≤3) (w:World) (hg:GroundT w) (hR:ReqAt w base rb mb n D s st chV cn cs) (c:Int) (hc:malC s k p d f=c) (hc0:c≠0) :
  Calls Tryz.prog 43 #[.pointer (some ⟨rb,0,none⟩),opV k p d v f] w fun e w'=>e=.returned (.tuple #[.agg #[.string ⟨#[]⟩,.string ⟨#[]⟩,.int .i64 0,.int .i64 0,.int .i64 0,.int .i64 0,.slice none 0 0],.int .i64 c])∧Below w.heap.size w w':=by
 have HM:Hid (∀ W,GroundT W→W.cell? ⟨rb,0,none⟩=some (.int .i64 s)→rb<W.heap.size→Calls Tryz.prog 61 #[.pointer (some ⟨rb,0,none⟩),opV k p d v f] W fun e w'=>e=.returned (.int .i64 c)∧Below W.heap.size W w'):=fun W hW hr hl=>by rw [← hc];exact mal_any h1 h7 rb s p d v f hf W hW hr hl
 have HR:Hid _:=hR
 have HG:Hid _:=hg
 have HC:Hid _:=hc
 have hcb:(c==0)=false:=by simp [hc0]
 clear hR hg hf h1 h7 hc
 go_enter Tryz.func43,Tryz.ntmps43
 have HW0:Hid (Below w.heap.size w ((w.alloc (.cells #[.int .i64 k,.string p,.string d,.int .i64 v,.int .i64 f] 66)).alloc (.cells #[.string ⟨#[]⟩,.string ⟨#[]⟩,.int .i64 0,.int .i64 0,.int .i64 0,.int .i64 0,.slice none 0 0] 103))):=((Below.refl _ _).alloc (Nat.le_refl _) _).alloc (by simp) _
 have HR0:Hid _:=HR.out.below HW0.out
 go_wp2_with fail
 refine (HM.out _ (HG.out.below HW0.out) (cells_4 HR0.out.box).1 HR0.out.lt.1).mono ?_
 rintro e w1 ⟨rfl,hb1⟩
 have HB1:Hid (Below w.heap.size w w1):=trans2 HW0.out hb1
 have HZ1:Hid (w1.heap[w.heap.size+1]? = some (.cells #[.string ⟨#[]⟩,.string ⟨#[]⟩,.int .i64 0,.int .i64 0,.int .i64 0,.int .i64 0,.slice none 0 0] 103 (0,0))):=kept_block hb1 (heap_alloc2_new _ _ _)
 obtain ⟨b0,b1,b2,b3,b4,b5,b6⟩:=cells_7 HZ1.out
 have hfz:=free_7 HZ1.out
 clear hb1
 go_wp2
 exact bodyPost_ret (results_cell_tmp rfl _ _ (w.heap.size+1) 103 _ (0,0) _ (.int .i64 c) rfl rfl (fill_7 HZ1.out) Tryz.underlying103 rfl (by kernel_rfl)) rfl ⟨rfl,fillB_7 HB1.out (by omega)⟩
set_option maxHeartbeats 16000000 in
set_option maxRecDepth 100000 in
theorem play_make (base rb mb n:Nat) (D:DataW Value) (s st:Int) (chV:Value) (cn:Nat) (cs:List Value) (p d:ByteArray) (v:Int) (pp pd:ByteArray) (pv pm pc pk:Int) (zp zd:ByteArray) (zv zm zc zo zk:Int) (w:World) (hg:GroundT w)
  (hR:ReqAt w base rb mb n D s st chV cn cs) (hmal:malC s 1 p d 0=0) (hpl:look D (parB p)=fuV pp pd pv pm pc 0 pk) (hph:Maps.has D (ky (parB p))=true) (hnl:look D p=fuV zp zd zv zm zc zo zk) (hnh:Maps.has D (ky p)=false) (hfull:Maps.size D<64)
  (h1:p.size≤1000) (h2:d.size≤1000) (h3:pp.size≤1000) (h4:pd.size≤1000) (h5:(parB p).size≤1000) (hn:n≤10000) (hcn:cn≤1000) :
  Calls Tryz.prog 43 #[.pointer (some ⟨rb,0,none⟩),opV 1 p d v 0] w fun e w'=>e=.returned (.tuple #[.agg #[.string p,.string ⟨#[]⟩,.int .i64 0,.int .i64 st,.int .i64 st,.int .i64 0,.slice none 0 0],.int .i64 0]) ∧
   ∃ chV',ReqAt w' base rb mb (n+1+1) ((D.put (ky pp) (.held (fuV pp pd pv pm pc 0 pk))).put (ky p) (.held (fuV p d 0 st st 0 0))) s st chV' (cn+1) (cs ++ [.int .i64 1,.string p,.string d,.int .i64 0])∧(chV'.ownBlock=chV.ownBlock∨∃ g,chV'.ownBlock=some g∧w.heap.size≤g)∧Chg w w' (fun k=>k=rb∨k=mb∨chV.ownBlock=some k):=by
 have HM:Hid (∀ W,GroundT W→W.cell? ⟨rb,0,none⟩=some (.int .i64 s)→rb<W.heap.size→Calls Tryz.prog 61 #[.pointer (some ⟨rb,0,none⟩),opV 1 p d v 0] W fun e w'=>e=.returned (.int .i64 0)∧Below W.heap.size W w'):=fun W hW hr hl=>by have h:=mal_1_0 rb s p d v W hW hr hl;rw [hmal] at h;exact h
 have HK:Hid (∀ W,GroundT W→ReqAt W base rb mb n D s st chV cn cs→Calls Tryz.prog 62 #[.pointer (some ⟨rb,0,none⟩),opV 1 p d v 0] W fun e w'=>e=.returned (.tuple #[.agg #[.string p,.string ⟨#[]⟩,.int .i64 0,.int .i64 st,.int .i64 st,.int .i64 0,.slice none 0 0],.int .i64 0])∧∃ chV',ReqAt w' base rb mb (n+1+1) ((D.put (ky pp) (.held (fuV pp pd pv pm pc 0 pk))).put (ky p) (.held (fuV p d 0 st st 0 0))) s st chV' (cn+1) (cs ++ [.int .i64 1,.string p,.string d,.int .i64 0])∧(chV'.ownBlock=chV.ownBlock∨∃ g,chV'.ownBlock=some g∧W.heap.size≤g)∧Chg W w' (fun k=>k=rb∨k=mb∨chV.ownBlock=some k)):=fun W hW hRW=>make_plain base rb mb n D s st chV cn cs p d v pp pd pv pm pc pk zp zd zv zm zc zo zk W hW hRW hpl hph hnl hnh hfull h1 h2 h3 h4 h5 hn hcn
 have HR:Hid _:=hR
 have HG:Hid _:=hg
 clear hR hg hmal hpl hph hnl hnh hfull h1 h2 h3 h4 h5 hn hcn
 go_enter Tryz.func43,Tryz.ntmps43
 have HW0:Hid (Below w.heap.size w ((w.alloc (.cells #[.int .i64 1,.string p,.string d,.int .i64 v,.int .i64 0] 66)).alloc (.cells #[.string ⟨#[]⟩,.string ⟨#[]⟩,.int .i64 0,.int .i64 0,.int .i64 0,.int .i64 0,.slice none 0 0] 103))):=((Below.refl _ _).alloc (Nat.le_refl _) _).alloc (by simp) _
 have HR0:Hid _:=HR.out.below HW0.out
 go_wp2_with fail
 refine (HM.out _ (HG.out.below HW0.out) (cells_4 HR0.out.box).1 HR0.out.lt.1).mono ?_
 rintro e w1 ⟨rfl,hb1⟩
 have HB1:Hid (Below w.heap.size w w1):=trans2 HW0.out hb1
 have HO1:Hid (w1.heap[w.heap.size]? = some (.cells #[.int .i64 1,.string p,.string d,.int .i64 v,.int .i64 0] 66 (0,0))):=kept_block hb1 (heap_alloc2_old _ _ _)
 have HZ1:Hid (w1.heap[w.heap.size+1]? = some (.cells #[.string ⟨#[]⟩,.string ⟨#[]⟩,.int .i64 0,.int .i64 0,.int .i64 0,.int .i64 0,.slice none 0 0] 103 (0,0))):=kept_block hb1 (heap_alloc2_new _ _ _)
 have HR1:Hid _:=HR0.out.below hb1
 have HG1:Hid _:=HG.out.below HB1.out
 obtain ⟨o0,o1,o2,o3,o4⟩:=cells_5 HO1.out
 have n1:=HG1.out.need 1 0 true rfl
 simp only [Nat.reduceMul,Nat.reduceAdd] at n1
 clear hb1
 go_wp2_with fail
 refine (HK.out _ HG1.out HR1.out).mono ?_
 rintro e w2 ⟨rfl,chV',hR2,hL2,hC2⟩
 have HR2:Hid _:=hR2
 have HC2:Hid _:=hC2
 have HL2:Hid _:=hL2
 have hrb:=HR.out.lt
 have hs1:=HB1.out.size
 have HZ2:Hid (w2.heap[w.heap.size+1]? = some (.cells #[.string ⟨#[]⟩,.string ⟨#[]⟩,.int .i64 0,.int .i64 0,.int .i64 0,.int .i64 0,.slice none 0 0] 103 (0,0))):=kept_chg hC2 HZ1.out (fun e=>by
  rcases e with e | e | e
  · omega
  · omega
  · obtain ⟨cur,hcur⟩:=owns_kind HR1.out.row e
    rw [HZ1.out] at hcur
    simp at hcur)
 obtain ⟨b0,b1,b2,b3,b4,b5,b6⟩:=cells_7 HZ2.out
 have hfz:=free_7 HZ2.out
 clear hR2 hL2 hC2 o0 o1 o2 o3 o4 n1
 go_wp2_with fail
 have hgb:∀ k,chV'.ownBlock=some k→¬ k=w.heap.size+1:=fun k hk e=>by
  obtain ⟨cur,hcur⟩:=owns_kind HR2.out.row hk
  rw [e,HZ2.out] at hcur
  simp at hcur
 refine bodyPost_ret (results_cell_tmp rfl _ _ (w.heap.size+1) 103 _ (0,0) _ (.int .i64 0) rfl rfl (fill_7 HZ2.out) Tryz.underlying103 rfl (by kernel_rfl)) rfl ⟨rfl,chV',HR2.out.chg putC_7 (by omega) (by omega) hgb,HL2.out.imp id (fun ⟨g,h,h'⟩=>⟨g,h,by omega⟩),?_⟩
 exact (((Chg.of_below HB1.out _).trans (HC2.out.mono (S':=fun k=>(k=rb∨k=mb∨chV.ownBlock=some k)∨k=w.heap.size+1) (fun _ _ h=>.inl h))).trans (putC_7.mono (fun _ _ h=>.inr h))).mono (fun k hk h=>h.elim id (fun e=>absurd hk (by omega)))
end Go.Proofs.YtckmihplkhmpnaaGreatDoor
namespace Go.Proofs.YtckmihplkhmpnaaGreatDoor
open Go.RowKit Go.Maps
set_option linter.unusedVariables false
set_option linter.unusedSimpArgs false
attribute [local go_sem ↓] Go.wp_at_zero Go.wp_at_succ
theorem results_cell1 {P:Program} {fn:Func} {p:Tmp} {ty:TypeId} (h:fn.results=#[.cell p ty]) (tmps:Array Value) (w:World) (g:Nat) (t:TypeId) (cs:Array Value) (fr:Nat × Nat) (d:TypeDesc)
  (hp:tmps.getD p undef=.pointer (some ⟨g,0,none⟩)) (hg:w.heap[g]? = some (.cells cs t fr))
  (hu:P.underlying ty=some d) (hd:(match d with | .struct _ | .array _ _=>true | _=>false)=true) (hi:(P.info? ty).map (·.size)=some cs.size) :
  (results fn tmps).run P w=.ok (.agg cs) w:=by
 have hp':tmps[p]?.getD undef=.pointer (some ⟨g,0,none⟩):=by simpa using hp
 simp [results,h,hp',asAddr,run_loadVar_row w g t ty cs fr d hg hu hd hi]
set_option maxHeartbeats 16000000 in
set_option maxRecDepth 100000 in
theorem set_any (base rb mb n:Nat) (D:DataW Value) (s st:Int) (chV:Value) (cn:Nat) (cs:List Value) (p d0 d:ByteArray) (v m c o k:Int) (w:World)
  (hR:ReqAt w base rb mb n D s st chV cn cs) (hv:-1000≤v∧v<2147483647) (h1:p.size≤1000) (h2:d.size≤1000) (hn:n≤10000) (hcn:cn≤1000) :
  Calls Tryz.prog 64 #[.pointer (some ⟨rb,0,none⟩),fuV p d0 v m c o k,.string d] w fun e w'=>e=.returned (.agg #[.string p,.string ⟨#[]⟩,.int .i64 (v+1),.int .i64 m,.int .i64 st,.int .i64 o,.slice none 0 0]) ∧
   ∃ chV',ReqAt w' base rb mb (n+1) (D.put (ky p) (.held (fuV p d (v+1) m st o k))) s st chV' (cn+1) (cs ++ [.int .i64 2,.string p,.string d,.int .i64 (v+1)])∧(chV'.ownBlock=chV.ownBlock∨∃ g,chV'.ownBlock=some g∧w.heap.size≤g)∧Chg w w' (fun k=>k=rb∨k=mb∨chV.ownBlock=some k):=by
 have hvw:IntKind.i64.wrap (v+1)=v+1:=by rw [IntKind.wrap_i64];omega
 clear hv
 obtain ⟨i0,hi0,hz0,hz1,hz2⟩:=info_parts Tryz.infoC
 have HR:Hid _:=hR
 have hrl:=hR.lt.1
 have hml:=hR.lt.2
 obtain ⟨nb,hnb⟩:∃ nb,w.heap.size=nb:=⟨_,rfl⟩
 obtain ⟨zb,hzb⟩:∃ zb,w.heap.size+1=zb:=⟨_,rfl⟩
 have hnz:nb≠zb∧rb≠nb∧rb≠zb∧mb≠nb∧mb≠zb:=by refine ⟨?_,?_,?_,?_,?_⟩ <;> omega
 obtain ⟨hnz1,hnz2,hnz3,hnz4,hnz5⟩:=hnz
 clear hR
 obtain ⟨W1,hW1⟩:∃ x,(w.alloc (.cells #[.string p,.string d0,.int .i64 v,.int .i64 m,.int .i64 c,.int .i64 o,.int .i64 k] 27)).alloc (.cells #[.string ⟨#[]⟩,.string ⟨#[]⟩,.int .i64 0,.int .i64 0,.int .i64 0,.int .i64 0,.slice none 0 0] 103)=x:=⟨_,rfl⟩
 have HB1:Hid (Below w.heap.size w W1):=by rw [← hW1];exact ((Below.refl _ _).alloc (Nat.le_refl _) _).alloc (by simp) _
 have HN1:Hid (W1.heap[nb]? = some (.cells #[.string p,.string d0,.int .i64 v,.int .i64 m,.int .i64 c,.int .i64 o,.int .i64 k] 27 (0,0))):=by rw [← hW1,← hnb];exact heap_alloc2_old _ _ _
 have HZ1:Hid (W1.heap[zb]? = some (.cells #[.string ⟨#[]⟩,.string ⟨#[]⟩,.int .i64 0,.int .i64 0,.int .i64 0,.int .i64 0,.slice none 0 0] 103 (0,0))):=by rw [← hW1,← hzb];exact heap_alloc2_new _ _ _
 have HR1:Hid _:=HR.out.below HB1.out
 have HW1:Hid _:=hW1
 have HNB:Hid (w.heap.size=nb):=hnb
 have HZB:Hid (w.heap.size+1=zb):=hzb
 have hnbl:w.heap.size≤nb:=by omega
 have hzbl:w.heap.size≤zb:=by omega
 clear hW1 hnb hzb
 go_enter Tryz.func64,Tryz.ntmps64
 go_upto_region 1 with fail
 rw [HW1.out,HZB.out,HNB.out]
 obtain ⟨r0,r1,r2,r3⟩:=cells_4 HR1.out.box
 obtain ⟨a0,a1,a2,a3,a4,a5,a6⟩:=cells_7 HN1.out
 have hfn:=free_7 HN1.out
 go_upto_region 4 with fail
 obtain ⟨w6,hw6⟩:∃ x,((W1.setCell ⟨nb,1,none⟩ (.string d)).setCell ⟨nb,2,none⟩ (.int .i64 (v+1))).setCell ⟨nb,4,none⟩ (.int .i64 st)=x:=⟨_,rfl⟩
 rw [hw6]
 have hb6:Below w.heap.size W1 w6:=by rw [← hw6];exact (((Below.refl _ _).setCell (by show w.heap.size≤nb;omega) _).setCell (by show w.heap.size≤nb;omega) _).setCell (by show w.heap.size≤nb;omega) _
 have HB6:Hid (Below w.heap.size w w6):=HB1.out.trans hb6
 have HR6:Hid _:=HR.out.below HB6.out
 have HN6:Hid (w6.heap[nb]? = some (.cells #[.string p,.string d,.int .i64 (v+1),.int .i64 m,.int .i64 st,.int .i64 o,.int .i64 k] 27 (0,0))):=by rw [← hw6];exact same_blk (same_blk (same_blk HN1.out rfl) rfl) rfl
 have HZ6:Hid _:=other_blk (other_blk (other_blk HZ1.out (Ne.symm hnz1) (i:=1) (v:=.string d)) (Ne.symm hnz1) (i:=2) (v:=.int .i64 (v+1))) (Ne.symm hnz1) (i:=4) (v:=.int .i64 st)
 rw [hw6] at HZ6
 clear hw6 hb6 r0 r1 r2 r3 a0 a1 a2 a3 a4 a5 a6 hfn
 obtain ⟨r0,r1,r2,r3⟩:=cells_4 HR6.out.box
 obtain ⟨a0,a1,a2,a3,a4,a5,a6⟩:=cells_7 HN6.out
 go_wp2_with fail
 have HM8:Hid _:=put_any mb n D p d (v+1) m st o k (by omega) (by omega) w6.drew (HR6.out.below (below_drew (Below.refl _ _))).map (by omega)
 go_region_held3 (fun w'=>w'.cell? ⟨rb,2,none⟩=some (.map (some mb))∧w'.cell? ⟨nb,0,none⟩=some (.string p)∧w'.cell? ⟨nb,1,none⟩=some (.string d)∧w'.cell? ⟨nb,2,none⟩=some (.int .i64 (v+1))∧w'.cell? ⟨nb,3,none⟩=some (.int .i64 m)∧w'.cell? ⟨nb,4,none⟩=some (.int .i64 st)∧w'.cell? ⟨nb,5,none⟩=some (.int .i64 o)∧w'.cell? ⟨nb,6,none⟩=some (.int .i64 k)) (first | (simp only [World.cell?_drew,r2,a0,a1,a2,a3,a4,a5,a6,and_self]) | go_keep)
  (first
    | (go_at_call 16;refine Calls.mono HM8.out ?_;rintro e w8 ⟨rfl,hm8,hc8⟩
       have HR8:Hid _:=(HR6.out.below (below_drew (Below.refl _ _))).put hm8 hc8
       have HC8:Hid (Chg w w8 (fun k=>k=mb)):=(Chg.of_below (below_drew HB6.out) _).trans hc8
       have HZ8:Hid _:=kept_chg hc8 HZ6.out (by omega)
       have HN8:Hid _:=kept_chg hc8 HN6.out (by omega)
       clear hm8 hc8 r0 r1 r2 r3 a0 a1 a2 a3 a4 a5 a6
       obtain ⟨r0,r1,r2,r3⟩:=cells_4 HR8.out.box
       obtain ⟨a0,a1,a2,a3,a4,a5,a6⟩:=cells_7 HN8.out))
 go_wp2_with fail
 have HCH:Hid _:=change_any p d (v+1) m st o k 2 (by omega) (by omega)
 have hbn:base≤w8.heap.size:=HR8.out.base_le
 have HEN:Hid (∀ args w,(callFunc 76 args).run Tryz.prog w=.ok (.enter 76 args) w):=enters_of Tryz.func76 (by kernel_rfl) rfl
 have hnl8:nb<w8.heap.size:=(Array.getElem?_eq_some_iff.1 HN8.out).1
 go_cut [4] from 7 (fun s4 wc=>s4=.pointer (some ⟨nb,0,none⟩)∧∃ chV',Hid (ReqAt wc base rb mb (n+1) (D.put (ky p) (.held (fuV p d (v+1) m st o k))) s st chV' (cn+1) (cs ++ [.int .i64 2,.string p,.string d,.int .i64 (v+1)]))∧Hid (chV'.ownBlock=chV.ownBlock∨∃ g,chV'.ownBlock=some g∧w.heap.size≤g)∧Hid (Chg w wc (fun k=>k=rb∨k=mb∨chV.ownBlock=some k))∧Hid (wc.heap[zb]? = some (.cells #[.string ⟨#[]⟩,.string ⟨#[]⟩,.int .i64 0,.int .i64 0,.int .i64 0,.int .i64 0,.slice none 0 0] 103 (0,0)))∧Hid (wc.heap[nb]? = some (.cells #[.string p,.string d,.int .i64 (v+1),.int .i64 m,.int .i64 st,.int .i64 o,.int .i64 k] 27 (0,0))))
 case first =>
  go_region_law
   (first
     | (refine step_call2 (by rfl) 76 _ _ _ (by rfl) HEN.out (fuV p d (v+1) m st o k) (.int .i64 2) (by rfl) (by rfl) (HCH.out _) (.agg #[.int .i64 2,.string p,.string d,.int .i64 (v+1)]) (fun _ _ h=>h.1) ?_
        intro w9 hR9
        have hb9:=hR9.2
        clear hR9
        have hb9':=of_drew hb9
        have HR9:Hid _:=HR8.out.below hb9'
        have HC9:Hid _:=HC8.out.trans (Chg.of_below hb9' _)
        have HZ9:Hid _:=kept_block hb9' HZ8.out
        have HN9:Hid _:=kept_block hb9' HN8.out
        have hrl9:rb<w9.heap.size:=HR9.out.lt.1
        have hnl9:nb<w9.heap.size:=(Array.getElem?_eq_some_iff.1 HN9.out).1
        have hzl9:zb<w9.heap.size:=(Array.getElem?_eq_some_iff.1 HZ9.out).1
        have qr:rb≠w9.heap.size:=by omega
        have qn9:nb≠w9.heap.size:=by omega
        have hba9:base≤w9.heap.size:=HR9.out.base_le
        clear hb9 hb9' r0 r1 r2 r3 a0 a1 a2 a3 a4 a5 a6
        obtain ⟨r0,r1,r2,r3⟩:=cells_4 HR9.out.box
        obtain ⟨a0,a1,a2,a3,a4,a5,a6⟩:=cells_7 HN9.out)
     | (refine step_append_lies _ (by rfl) _ _ _ (by rfl) base 69 i0 _ 4 48 Tryz.underlying62 hi0 hz0 hz1 hz2 rfl (by omega) chV cn cs (by rfl) (World.ownsRow.alloc HR9.out.row _) ⟨w9.heap.size,0,none⟩ 1 1 [.int .i64 2,.string p,.string d,.int .i64 (v+1)] (by rfl) (by rfl) (World.news_of_block (cs:=#[.int .i64 2,.string p,.string d,.int .i64 (v+1)]) (t:=69) (fr:=(0,0)) (heap_alloc_new w9 _)) (by simp [Value.oneCell']) (by omega) (by unfold maxLen;omega) (by omega) (by simp;omega) (w9.heap.size+1) (by simp) ?_
        intro g cap w10 hown10 hgrow10 hat10 hlt10
        have happ:=ReqAt.appended HR9.out hown10 hgrow10
        have HX10:Hid _:=happ.1
        have HR10:Hid _:=happ.2.1
        have HC10:Hid _:=happ.2.2
        have HN10:Hid (w10.heap[nb]? = some (.cells #[.string p,.string d,.int .i64 (v+1),.int .i64 m,.int .i64 st,.int .i64 o,.int .i64 k] 27 (0,0))):=by
         refine kept_chg ((Chg.alloc w9 _ _).trans (Chg.grown hgrow10)) HN9.out (fun e=>?_)
         obtain ⟨cur,hcur⟩:=owns_kind HR9.out.row e
         rw [HN9.out] at hcur
         simp at hcur
        have HZ10:Hid (w10.heap[zb]? = some (.cells #[.string ⟨#[]⟩,.string ⟨#[]⟩,.int .i64 0,.int .i64 0,.int .i64 0,.int .i64 0,.slice none 0 0] 103 (0,0))):=by
         refine kept_chg ((Chg.alloc w9 _ _).trans (Chg.grown hgrow10)) HZ9.out (fun e=>?_)
         obtain ⟨cur,hcur⟩:=owns_kind HR9.out.row e
         rw [HZ9.out] at hcur
         simp at hcur
        have HAT:Hid _:=hat10
        have qn:nb≠rb:=by omega
        clear hown10 hgrow10 hat10 hlt10 happ r0 r1 r2 r3 a0 a1 a2 a3 a4 a5 a6
        obtain ⟨r0,r1,r2,r3⟩:=cells_4 HX10.out
        have hfr:=free_4 HX10.out
        obtain ⟨a0,a1,a2,a3,a4,a5,a6⟩:=cells_7 HN10.out))
  all_goals
   go_wp2_with fail
   go_meet
   case rel=>exact ⟨rfl,_,HR10.out,(by rcases HAT.out with e | e;· exact .inl (by rw [e];rfl)
                                       · exact .inr ⟨g,rfl,by have e':g=w9.heap.size+1:=e;omega⟩),(HC9.out.mono (fun k _ e=>.inr (.inl e))).trans (HC10.out.mono (fun k _ e=>e.elim .inl (fun e=>.inr (.inr e)))),other_blk HZ10.out (by omega),other_blk HN10.out (by omega)⟩
 case rest =>
  obtain ⟨rfl,chV',HRf,HLf,HCf,HZf,HNf⟩:=hcut
  clear r0 r1 r2 r3 a0 a1 a2 a3 a4 a5 a6
  obtain ⟨a0,a1,a2,a3,a4,a5,a6⟩:=cells_7 HNf.out
  have HRE:Hid _:=result_any p d (v+1) m st o k (by omega)
  go_wp2_with fail
  refine (HRE.out _).mono ?_
  rintro e w12 ⟨rfl,hb12⟩
  have HR12:Hid _:=HRf.out.below hb12
  have HC12:Hid _:=HCf.out.trans (Chg.of_below hb12 _)
  have HZ12:Hid _:=kept_block hb12 HZf.out
  clear hb12 a0 a1 a2 a3 a4 a5 a6
  obtain ⟨b0,b1,b2,b3,b4,b5,b6⟩:=cells_7 HZ12.out
  have hfz:=free_7 HZ12.out
  go_wp2_with fail
  have hgb:∀ k,chV'.ownBlock=some k→¬ k=zb:=fun k hk e=>by
   obtain ⟨cur,hcur⟩:=owns_kind HR12.out.row hk
   rw [e,HZ12.out] at hcur
   simp at hcur
  refine bodyPost_ret (results_cell1 rfl _ _ zb 103 _ (0,0) _ rfl (fill_7 HZ12.out) Tryz.underlying103 rfl (by kernel_rfl)) rfl ⟨rfl,chV',HR12.out.chg putC_7 (by omega) (by omega) hgb,HLf.out,?_⟩
  exact ((HC12.out.mono (S':=fun k=>(k=rb∨k=mb∨chV.ownBlock=some k)∨k=zb) (fun _ _ h=>.inl h)).trans (putC_7.mono (fun _ _ h=>.inr h))).mono (fun k hk h=>h.elim id (fun e=>absurd hk (by omega)))
end Go.Proofs.YtckmihplkhmpnaaGreatDoor
namespace Go.Proofs.YtckmihplkhmpnaaGreatDoor
open Go.RowKit Go.Maps
set_option linter.unusedVariables false
set_option linter.unusedSimpArgs false
attribute [local go_sem ↓] Go.wp_at_zero Go.wp_at_succ
set_option maxHeartbeats 16000000 in
set_option maxRecDepth 100000 in
theorem drop_any (base rb mb n:Nat) (D:DataW Value) (s st:Int) (chV:Value) (cn:Nat) (cs:List Value) (p d0:ByteArray) (v m c o k:Int) (w:World)
  (hR:ReqAt w base rb mb n D s st chV cn cs) (h1:p.size≤1000) (hn:n≤10000) (hcn:cn≤1000) :
  Calls Tryz.prog 49 #[.pointer (some ⟨rb,0,none⟩),fuV p d0 v m c o k] w fun e w'=>e=.returned (.agg #[.string p,.string ⟨#[]⟩,.int .i64 0,.int .i64 0,.int .i64 0,.int .i64 0,.slice none 0 0]) ∧
   ∃ chV',ReqAt w' base rb mb n (D.del (ky p)) s st chV' (cn+1) (cs ++ [.int .i64 3,.string p,.string ⟨#[]⟩,.int .i64 v])∧(chV'.ownBlock=chV.ownBlock∨∃ g,chV'.ownBlock=some g∧w.heap.size≤g)∧Chg w w' (fun k=>k=rb∨k=mb∨chV.ownBlock=some k):=by
 obtain ⟨i0,hi0,hz0,hz1,hz2⟩:=info_parts Tryz.infoC
 have HR:Hid _:=hR
 have hrl:=hR.lt.1
 have hml:=hR.lt.2
 obtain ⟨nb,hnb⟩:∃ nb,w.heap.size=nb:=⟨_,rfl⟩
 obtain ⟨zb,hzb⟩:∃ zb,w.heap.size+1=zb:=⟨_,rfl⟩
 have hnz:nb≠zb∧rb≠nb∧rb≠zb∧mb≠nb∧mb≠zb:=by refine ⟨?_,?_,?_,?_,?_⟩ <;> omega
 obtain ⟨hnz1,hnz2,hnz3,hnz4,hnz5⟩:=hnz
 clear hR
 obtain ⟨W1,hW1⟩:∃ x,(w.alloc (.cells #[.string p,.string d0,.int .i64 v,.int .i64 m,.int .i64 c,.int .i64 o,.int .i64 k] 27)).alloc (.cells #[.string ⟨#[]⟩,.string ⟨#[]⟩,.int .i64 0,.int .i64 0,.int .i64 0,.int .i64 0,.slice none 0 0] 103)=x:=⟨_,rfl⟩
 have HB1:Hid (Below w.heap.size w W1):=by rw [← hW1];exact ((Below.refl _ _).alloc (Nat.le_refl _) _).alloc (by simp) _
 have HN1:Hid (W1.heap[nb]? = some (.cells #[.string p,.string d0,.int .i64 v,.int .i64 m,.int .i64 c,.int .i64 o,.int .i64 k] 27 (0,0))):=by rw [← hW1,← hnb];exact heap_alloc2_old _ _ _
 have HZ1:Hid (W1.heap[zb]? = some (.cells #[.string ⟨#[]⟩,.string ⟨#[]⟩,.int .i64 0,.int .i64 0,.int .i64 0,.int .i64 0,.slice none 0 0] 103 (0,0))):=by rw [← hW1,← hzb];exact heap_alloc2_new _ _ _
 have HR1:Hid _:=HR.out.below HB1.out
 have HW1:Hid _:=hW1
 have HNB:Hid (w.heap.size=nb):=hnb
 have HZB:Hid (w.heap.size+1=zb):=hzb
 have hnbl:w.heap.size≤nb:=by omega
 have hzbl:w.heap.size≤zb:=by omega
 clear hW1 hnb hzb
 have hkey:keyOf Tryz.prog 9 (.string p)=some (ky p):=WideMaps.keyOf_string_mk Tryz.underlying9 (by unfold maxLen;omega)
 obtain ⟨w2,hrun,hown2,hturn2⟩:=(HR1.out.below (below_drew (Below.refl _ _))).map.drop keyed Tryz.underlying52 hkey 0
 have hc2:Chg W1.drew w2 (fun k=>k=mb):=(Chg.grown hturn2.grown).mono (fun k _ e=>by cases e;rfl)
 have HR2:Hid _:=(HR1.out.below (below_drew (Below.refl _ _))).put hown2 hc2
 have HC2:Hid (Chg w w2 (fun k=>k=mb)):=(Chg.of_below (below_drew HB1.out) _).trans hc2
 have HN2:Hid _:=kept_chg hc2 HN1.out (fun e=>hnz4 e.symm)
 have HZ2:Hid _:=kept_chg hc2 HZ1.out (fun e=>hnz5 e.symm)
 clear hown2 hturn2 hc2 hkey
 go_enter Tryz.func49,Tryz.ntmps49
 go_upto_region 1 with fail
 rw [HW1.out,HZB.out,HNB.out]
 obtain ⟨r0,r1,r2,r3⟩:=cells_4 HR1.out.box
 obtain ⟨a0,a1,a2,a3,a4,a5,a6⟩:=cells_7 HN1.out
 go_region_held3 (fun w'=>w'.cell? ⟨rb,2,none⟩=some (.map (some mb))∧w'.cell? ⟨nb,0,none⟩=some (.string p)) (first | (simp only [World.cell?_drew,r2,a0,and_self]) | exact ⟨(cells_4 HR2.out.box).2.2.1,(cells_7 HN2.out).1⟩ | go_keep) (fail)
 clear r0 r1 r2 r3 a0 a1 a2 a3 a4 a5 a6 hrun
 obtain ⟨a0,a1,a2,a3,a4,a5,a6⟩:=cells_7 HN2.out
 have hfn:=free_7 HN2.out
 go_upto_region 3 with fail
 obtain ⟨w8,hw8⟩:∃ x,w2.setCell ⟨nb,1,none⟩ (.string ⟨#[]⟩)=x:=⟨_,rfl⟩
 rw [hw8]
 have HC8:Hid (Chg w w8 (fun k=>k=mb)):=by rw [← hw8];exact (((HC2.out.mono (S':=fun k=>k=mb∨k=nb) (fun _ _ h=>.inl h)).trans ((Chg.set w2 ⟨nb,1,none⟩ _).mono (fun _ _ h=>.inr h))).mono (fun k hk h=>h.elim id (fun e=>absurd hk (by have e':k=nb:=e;omega))))
 have HR8:Hid _:=HR2.out.chg (Chg.set w2 ⟨nb,1,none⟩ (.string ⟨#[]⟩)) (fun e=>hnz2 e) (fun e=>hnz4 e) (fun k hk e=>by
  have e':k=nb:=e
  subst e'
  obtain ⟨cur,hcur⟩:=owns_kind HR2.out.row hk
  rw [HN2.out] at hcur
  simp at hcur)
 have HN8:Hid (w8.heap[nb]? = some (.cells #[.string p,.string ⟨#[]⟩,.int .i64 v,.int .i64 m,.int .i64 c,.int .i64 o,.int .i64 k] 27 (0,0))):=by rw [← hw8];exact same_blk HN2.out rfl
 have HZ8:Hid _:=other_blk HZ2.out (Ne.symm hnz1) (i:=1) (v:=.string ⟨#[]⟩)
 rw [hw8] at HR8 HZ8
 clear hw8 a0 a1 a2 a3 a4 a5 a6 hfn
 obtain ⟨r0,r1,r2,r3⟩:=cells_4 HR8.out.box
 obtain ⟨a0,a1,a2,a3,a4,a5,a6⟩:=cells_7 HN8.out
 go_wp2_with fail
 have HCH:Hid _:=change_any p ⟨#[]⟩ v m c o k 3 (by omega) (by show 0≤_;omega)
 have hbn:base≤w8.heap.size:=HR8.out.base_le
 have HEN:Hid (∀ args w,(callFunc 76 args).run Tryz.prog w=.ok (.enter 76 args) w):=enters_of Tryz.func76 (by kernel_rfl) rfl
 have hnl8:nb<w8.heap.size:=(Array.getElem?_eq_some_iff.1 HN8.out).1
 go_cut [3] from 5 (fun s3 wc=>s3=.pointer (some ⟨nb,0,none⟩)∧∃ chV',Hid (ReqAt wc base rb mb n (D.del (ky p)) s st chV' (cn+1) (cs ++ [.int .i64 3,.string p,.string ⟨#[]⟩,.int .i64 v]))∧Hid (chV'.ownBlock=chV.ownBlock∨∃ g,chV'.ownBlock=some g∧w.heap.size≤g)∧Hid (Chg w wc (fun k=>k=rb∨k=mb∨chV.ownBlock=some k))∧Hid (wc.heap[zb]? = some (.cells #[.string ⟨#[]⟩,.string ⟨#[]⟩,.int .i64 0,.int .i64 0,.int .i64 0,.int .i64 0,.slice none 0 0] 103 (0,0)))∧Hid (wc.heap[nb]? = some (.cells #[.string p,.string ⟨#[]⟩,.int .i64 v,.int .i64 m,.int .i64 c,.int .i64 o,.int .i64 k] 27 (0,0))))
 case first =>
  go_region_law
   (first
     | (refine step_call2 (by rfl) 76 _ _ _ (by rfl) HEN.out (fuV p ⟨#[]⟩ v m c o k) (.int .i64 3) (by rfl) (by rfl) (HCH.out _) (.agg #[.int .i64 3,.string p,.string ⟨#[]⟩,.int .i64 v]) (fun _ _ h=>h.1) ?_
        intro w9 hR9
        have hb9:=hR9.2
        clear hR9
        have hb9':=of_drew hb9
        have HR9:Hid _:=HR8.out.below hb9'
        have HC9:Hid _:=HC8.out.trans (Chg.of_below hb9' _)
        have HZ9:Hid _:=kept_block hb9' HZ8.out
        have HN9:Hid _:=kept_block hb9' HN8.out
        have hrl9:rb<w9.heap.size:=HR9.out.lt.1
        have hnl9:nb<w9.heap.size:=(Array.getElem?_eq_some_iff.1 HN9.out).1
        have hzl9:zb<w9.heap.size:=(Array.getElem?_eq_some_iff.1 HZ9.out).1
        have qr:rb≠w9.heap.size:=by omega
        have qn9:nb≠w9.heap.size:=by omega
        have hba9:base≤w9.heap.size:=HR9.out.base_le
        clear hb9 hb9' r0 r1 r2 r3 a0 a1 a2 a3 a4 a5 a6
        obtain ⟨r0,r1,r2,r3⟩:=cells_4 HR9.out.box
        obtain ⟨a0,a1,a2,a3,a4,a5,a6⟩:=cells_7 HN9.out)
     | (refine step_append_lies _ (by rfl) _ _ _ (by rfl) base 69 i0 _ 4 48 Tryz.underlying62 hi0 hz0 hz1 hz2 rfl (by omega) chV cn cs (by rfl) (World.ownsRow.alloc HR9.out.row _) ⟨w9.heap.size,0,none⟩ 1 1 [.int .i64 3,.string p,.string ⟨#[]⟩,.int .i64 v] (by rfl) (by rfl) (World.news_of_block (cs:=#[.int .i64 3,.string p,.string ⟨#[]⟩,.int .i64 v]) (t:=69) (fr:=(0,0)) (heap_alloc_new w9 _)) (by simp [Value.oneCell']) (by omega) (by unfold maxLen;omega) (by omega) (by simp;omega) (w9.heap.size+1) (by simp) ?_
        intro g cap w10 hown10 hgrow10 hat10 hlt10
        have happ:=ReqAt.appended HR9.out hown10 hgrow10
        have HX10:Hid _:=happ.1
        have HR10:Hid _:=happ.2.1
        have HC10:Hid _:=happ.2.2
        have HN10:Hid (w10.heap[nb]? = some (.cells #[.string p,.string ⟨#[]⟩,.int .i64 v,.int .i64 m,.int .i64 c,.int .i64 o,.int .i64 k] 27 (0,0))):=by
         refine kept_chg ((Chg.alloc w9 _ _).trans (Chg.grown hgrow10)) HN9.out (fun e=>?_)
         obtain ⟨cur,hcur⟩:=owns_kind HR9.out.row e
         rw [HN9.out] at hcur
         simp at hcur
        have HZ10:Hid (w10.heap[zb]? = some (.cells #[.string ⟨#[]⟩,.string ⟨#[]⟩,.int .i64 0,.int .i64 0,.int .i64 0,.int .i64 0,.slice none 0 0] 103 (0,0))):=by
         refine kept_chg ((Chg.alloc w9 _ _).trans (Chg.grown hgrow10)) HZ9.out (fun e=>?_)
         obtain ⟨cur,hcur⟩:=owns_kind HR9.out.row e
         rw [HZ9.out] at hcur
         simp at hcur
        have HAT:Hid _:=hat10
        have qn:nb≠rb:=by omega
        clear hown10 hgrow10 hat10 hlt10 happ r0 r1 r2 r3 a0 a1 a2 a3 a4 a5 a6
        obtain ⟨r0,r1,r2,r3⟩:=cells_4 HX10.out
        have hfr:=free_4 HX10.out
        obtain ⟨a0,a1,a2,a3,a4,a5,a6⟩:=cells_7 HN10.out))
  all_goals
   go_wp2_with fail
   go_meet
   case rel=>exact ⟨rfl,_,HR10.out,(by rcases HAT.out with e | e;· exact .inl (by rw [e];rfl)
                                       · exact .inr ⟨g,rfl,by have e':g=w9.heap.size+1:=e;omega⟩),(HC9.out.mono (fun k _ e=>.inr (.inl e))).trans (HC10.out.mono (fun k _ e=>e.elim .inl (fun e=>.inr (.inr e)))),other_blk HZ10.out (by omega),other_blk HN10.out (by omega)⟩
 case rest =>
  obtain ⟨rfl,chV',HRf,HLf,HCf,HZf,HNf⟩:=hcut
  clear r0 r1 r2 r3 a0 a1 a2 a3 a4 a5 a6
  obtain ⟨a0,a1,a2,a3,a4,a5,a6⟩:=cells_7 HNf.out
  have HSC:Hid _:=sclone_any p (by omega)
  go_wp2_with fail
  refine (HSC.out _).mono ?_
  rintro e w12 ⟨rfl,hb12⟩
  have HR12:Hid _:=HRf.out.below hb12
  have HC12:Hid _:=HCf.out.trans (Chg.of_below hb12 _)
  have HZ12:Hid _:=kept_block hb12 HZf.out
  clear hb12 a0 a1 a2 a3 a4 a5 a6
  obtain ⟨b0,b1,b2,b3,b4,b5,b6⟩:=cells_7 HZ12.out
  have hfz:=free_7 HZ12.out
  go_wp2_with fail
  have hgb:∀ k,chV'.ownBlock=some k→¬ k=zb:=fun k hk e=>by
   obtain ⟨cur,hcur⟩:=owns_kind HR12.out.row hk
   rw [e,HZ12.out] at hcur
   simp at hcur
  refine bodyPost_ret (results_cell1 rfl _ _ zb 103 _ (0,0) _ rfl (fill_7 HZ12.out) Tryz.underlying103 rfl (by kernel_rfl)) rfl ⟨rfl,chV',HR12.out.chg putC_7 (by omega) (by omega) hgb,HLf.out,?_⟩
  exact ((HC12.out.mono (S':=fun k=>(k=rb∨k=mb∨chV.ownBlock=some k)∨k=zb) (fun _ _ h=>.inl h)).trans (putC_7.mono (fun _ _ h=>.inr h))).mono (fun k hk h=>h.elim id (fun e=>absurd hk (by omega)))
end Go.Proofs.YtckmihplkhmpnaaGreatDoor
