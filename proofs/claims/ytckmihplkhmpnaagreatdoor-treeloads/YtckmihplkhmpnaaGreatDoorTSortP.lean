import Derived.Test.YtckmihplkhmpnaaGreatDoorTOps
import Derived.Test.YtckmihplkhmpnaaGreatDoorRefOrder
import Derived.Test.YtckmihplkhmpnaaGreatDoorShelfG
import Derived.Test.YtckmihplkhmpnaaGreatDoorTSortN
import Derived.Shelf.SlSortCmp.Whole1
import Derived.Sort.OwnSorted
import Derived.Sort.KeysCollected
namespace Go.Proofs.YtckmihplkhmpnaaGreatDoor
open Go.RowKit Go.Maps Go.Sort Go.Shelf
set_option linter.unusedVariables false
def cl (l:List UInt8):List UInt8:=l.take 1000
def encC (l:List UInt8):Value:=encStr (cl l)
def cfC (x y:List UInt8):Int:=ordL (cl x) (cl y)
theorem cl_id {l:List UInt8} (h:l.length≤1000):cl l=l:=List.take_of_length_le h
theorem lt_iff (x y:List UInt8):ltOf cfC x y=true ↔ ordL (cl x) (cl y)=-1:=by
 unfold ltOf cfC
 rcases ordL_range (cl x) (cl y) with h | h | h <;> simp [h]
theorem swoC:SWO (ltOf cfC) where
 irrefl x:=by
  cases h:ltOf cfC x x with
  | false=>rfl
  | true=>rw [lt_iff,ordL_self] at h;cases h
 trans x y z h1 h2:=by
  rw [lt_iff] at *
  exact ordL_trans _ _ _ h1 h2
 ntrans x y z h1 h2:=by
  cases h:ltOf cfC x z with
  | false=>rfl
  | true =>
    rw [lt_iff] at h
    have g1:¬ ordL (cl x) (cl y)=-1:=fun e=>by rw [(lt_iff x y).2 e] at h1;cases h1
    have g2:¬ ordL (cl y) (cl z)=-1:=fun e=>by rw [(lt_iff y z).2 e] at h2;cases h2
    exfalso
    rcases ordL_range (cl x) (cl y) with e | e | e
    · exact g1 e
    · have:=ordL_zero _ _ e
      rw [this] at h
      exact g2 h
    · have e':ordL (cl y) (cl x)=-1:=by rw [ordL_anti,e]
      exact g2 (ordL_trans _ _ _ e' h)
theorem cmpC (blk off size:Nat) (w:World):CmpReads Tryz.prog 14 #[] encC cfC blk off size w:=by
 intro m os dk _ x y
 have hs:∀ l:List UInt8,(⟨(cl l).toArray⟩:ByteArray).size≤maxLen:=fun l=>by
  have:(cl l).length≤1000:=List.length_take_le _ _
  show (cl l).toArray.size≤maxLen
  unfold maxLen
  simp
  omega
 have h:=order_O ⟨(cl x).toArray⟩ ⟨(cl y).toArray⟩ (hs x) (hs y) (sortWorld encC w blk off m dk os)
 rw [O_list] at h
 exact h
theorem putC {w:World} {g n:Nat} {os:Array Obj} {ts:List (List UInt8)} (h:∀ l∈ts,l.length≤1000):sortWorld encC w g 0 n ts.toArray os=grow (putRow encStr (Sort.ahead w n) g 0 ts.toArray) os:=by
 unfold sortWorld putRow
 congr 1
 congr 1
 funext c
 unfold putCells
 congr 1
 funext k x
 split
 · rename_i hk
   have hk':k<ts.length:=by simpa using hk.2
   have e:ts.toArray[k - 0]! = ts[k]:=by simp [hk']
   rw [e]
   show encStr (cl ts[k])=encStr ts[k]
   rw [cl_id (h _ (List.getElem_mem hk'))]
 · rfl
set_option maxHeartbeats 1000000 in
theorem sorts_to:SortsTo:=by
 intro base g cap ss w hr hss hlen
 rcases hr.2 with ⟨hv,_⟩ | ⟨g',cap',cur,hv,hbase,hb',h1,h2,h3,h4⟩
 · cases hv
 obtain ⟨rfl,rfl⟩:g=g'∧cap=cap':=by
  simp only [Value.slice.injEq,Option.some.injEq,Addr.mk.injEq] at hv
  exact ⟨hv.1.1,hv.2.2⟩
 have hH:Holds encC w g 0 ss.toArray:=fun j hj=>by
  have h:=holds_of_block hb' (by simpa using h4) j hj
  have hj':j<ss.length:=by simpa using hj
  have e:ss.toArray[j]! = ss[j]:=by simp [hj']
  refine ⟨?_,h.2⟩
  rw [h.1,e]
  show some (encStr ss[j])=some (encStr (cl ss[j]))
  rw [cl_id (hss _ (List.getElem_mem hj'))]
 have hcon:=Any.slices_SortFunc Tryz.sortF encC (fun _=>rfl) cfC swoC 14 #[] g 0 cap ss.toArray w (enters_of Tryz.func14 (by kernel_rfl) rfl) (cmpC g 0 ss.toArray.size w).lays hH (Array.getElem?_eq_some_iff.1 hb').1 (by simp;omega)
 have HCON:Calls Tryz.prog 67 #[.slice (some ⟨g,0,none⟩) ss.length cap,ordV] w fun e w'=>e=.returned (.tuple #[])∧∃ d' n os,PermIn 0 ss.toArray.size ss.toArray d'∧SortedIn (ltOf cfC) 0 ss.toArray.size d'∧w'=sortWorld encC w g 0 n d' os:=hcon
 refine Calls.mono HCON ?_
 rintro e w2 ⟨rfl,d',nn,os,hpm,hso,rfl⟩
 obtain ⟨ts,rfl⟩:∃ ts:List (List UInt8),d'=ts.toArray:=⟨d'.toList,by simp⟩
 have hl:ts.length=ss.length:=by simpa using hpm.1
 have hpp:ts.Perm ss:=by
  have:=hpm.2.2
  simpa [hl,List.take_of_length_le] using this
 have hts:∀ l∈ts,l.length≤1000:=fun l h=>hss l (hpp.mem_iff.1 h)
 rw [putC hts]
 refine ⟨rfl,ts,hpp,?_,?_,grownBy_sorted _⟩
 · rw [List.pairwise_iff_getElem]
   intro i j hi hj hij e
   have hs:=hso i j (Nat.zero_le _) hij (by simp;omega)
   have e1:ts.toArray[j]! = ts[j]:=by simp [hj]
   have e2:ts.toArray[i]! = ts[i]:=by simp [hi]
   rw [e1,e2] at hs
   have:ltOf cfC ts[j] ts[i]=true:=by
    rw [lt_iff,cl_id (hts _ (List.getElem_mem hj)),cl_id (hts _ (List.getElem_mem hi)),ordL_anti,e]
   rw [this] at hs
   cases hs
 · have:=ownsRow_sorted (n:=nn) (os:=os) hl hbase hb' h1 h2 h3
   rw [hl]
   exact this
end Go.Proofs.YtckmihplkhmpnaaGreatDoor
