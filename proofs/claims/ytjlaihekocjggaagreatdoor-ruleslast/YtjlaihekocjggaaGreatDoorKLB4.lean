/- Texts that the others lean on. -/
import Derived.Test.YtjlaihekocjggaaGreatDoorKLB1
import Derived.Test.YtjlaihekocjggaaGreatDoorKMB
set_option maxHeartbeats 16000000
namespace Go.Proofs.YtjlaihekocjggaaGreatDoor.Lb
open Go.RowKit
structure Rl where
 act:Int
 frm:Mt
 tgt:Str
 txt:Str
def rl0:Rl:=⟨0,⟨[],0,[]⟩,[],[]⟩
def fText (s:Str):Bool:=decide (s.length ≤ 30) && !s.contains 10
def bare (r:Rl):Bool:=(r.tgt == []) && (r.txt == [])
def fRule (r:Rl):Bool:=
 if r.act = 1 then fMat r.frm && bare r else if r.act = 2 then fMat r.frm && bare r
 else if r.act = 3 then fMat r.frm && fName r.tgt && fText r.txt
 else if r.act = 4 then (r.frm.name == []) && decide (r.frm.kind = 0) && fText r.frm.text && bare r else false
/-! ### Printed -/
def quo (s:Str):Str:=[34] ++ esc s ++ [34]
def signT (k:Int):Str:=if k = 1 then [61] else if k = 2 then [33,61] else if k = 3 then [94,61] else [42,61]
def condT (m:Mt):Str:=m.name ++ [32] ++ signT m.kind ++ [32] ++ quo m.text
def keepT:Str:=[107,101,101,112,32]
def dropT:Str:=[100,114,111,112,32]
def replT:Str:=[114,101,112,108,97,99,101,32]
def ldropT:Str:=[108,97,98,101,108,100,114,111,112,32]
def lineT (r:Rl):Str:=
 if r.act = 1 then keepT ++ condT r.frm else if r.act = 2 then dropT ++ condT r.frm
 else if r.act = 3 then replT ++ condT r.frm ++ [32] ++ r.tgt ++ [32] ++ quo r.txt else ldropT ++ quo r.frm.text
def fPrintR (r:Rl):Str:=if fRule r = true then lineT r else []
open Go.RowKit
abbrev rv (r:Rl):Value:=.agg #[.int .i64 r.act,tx r.frm.name,.int .i64 r.frm.kind,tx r.frm.text,tx r.tgt,tx r.txt]
abbrev qv (r:Rl):Value:=.agg #[tx r.frm.name,.int .i64 r.frm.kind,tx r.frm.text,.int .i64 r.act,tx r.tgt,tx r.txt]
def FitR (r:Rl):Prop:=Big r.frm.name ∧ Big r.frm.text ∧ Big r.tgt ∧ Big r.txt
theorem zhf (s:Str) (w:World):Calls Tryz.prog 183 #[tx s] w fun e w'=>e = .returned (.bool (fText s)) ∧ w = w':=by
 have hct:=zdj s
 unfold fText
 generalize s.contains 10 = c at *
 by_cases hl:s.length ≤ 30
 ·
  have hl':(s.length:Int) ≤ 30:=by omega
  cases c <;> (
   go_enter Tryz.func183,Tryz.ntmps183
   go_wp2_with (go_at_call 207;refine (hct _).mono ?_;rintro e w' ⟨rfl,rfl⟩)
   go_ret
   exact ⟨by simp [hl],rfl⟩)
 have hl':¬ (s.length:Int) ≤ 30:=by omega
 go_enter Tryz.func183,Tryz.ntmps183
 go_wp2_with fail
 go_ret
 exact ⟨by simp,rfl⟩
theorem emp_t {s:Str} (h:s = []):(s == ([]:Str)) = true:=by simpa using h
theorem emp_f {s:Str} (h:¬ s = []):(s == ([]:Str)) = false:=by simpa using h
theorem zfv (r:Rl) (w:World):Calls Tryz.prog 182 #[qv r] w fun e w'=>e = .returned (.bool (bare r)) ∧ Below w.heap.size w w':=by
 have hb0:∀ o,Below w.heap.size w (w.alloc o):=bal (Below.refl _ _)
 unfold bare
 obtain ⟨act,⟨nn,kk,tt⟩,tgt,txt⟩:=r
 dsimp only at *
 by_cases h1:tgt = []
 ·
  have t1:=emp_t h1
  by_cases h2:txt = []
  ·
   have t2:=emp_t h2
   clear h1 h2
   go_enter Tryz.func182,Tryz.ntmps182
   go_wp2_with fail
   go_ret
   exact ⟨by rw [t1,t2];rfl,hb0 _⟩
  have t2:=emp_f h2
  clear h1 h2
  go_enter Tryz.func182,Tryz.ntmps182
  go_wp2_with fail
  go_ret
  exact ⟨by rw [t1,t2];rfl,hb0 _⟩
 have t1:=emp_f h1
 clear h1
 go_enter Tryz.func182,Tryz.ntmps182
 go_wp2_with fail
 go_ret
 exact ⟨by rw [t1];rfl,hb0 _⟩
theorem zdk (r:Rl) (w:World):Calls Tryz.prog 101 #[rv r] w fun e w'=>e = .returned (qv r) ∧ Below w.heap.size w w':=by
 have hb0:∀ o o',Below w.heap.size w ((w.alloc o).alloc o'):=fun o o'=>bal (bal (Below.refl _ _) o) o'
 obtain ⟨act,⟨nn,kk,tt⟩,tgt,txt⟩:=r
 go_enter Tryz.func101,Tryz.ntmps101
 go_wp2_with fail
 exact bodyPost_ret (results_cell_row (p:=2) (ty:=145) Tryz.results101 _ _ (w.heap.size + 1) 145 _ _ _ rfl (heap_alloc2_new _ _ _) Tryz.underlying145 rfl (by kernel_rfl)) rfl ⟨rfl,hb0 _ _⟩
structure BoxQ (w:World) (b:Nat) (r:Rl):Prop where
 c0:w.cell? ⟨b,0,none⟩ = some (tx r.frm.name)
 c1:w.cell? ⟨b,1,none⟩ = some (.int .i64 r.frm.kind)
 c2:w.cell? ⟨b,2,none⟩ = some (tx r.frm.text)
 c3:w.cell? ⟨b,3,none⟩ = some (.int .i64 r.act)
 c4:w.cell? ⟨b,4,none⟩ = some (tx r.tgt)
 c5:w.cell? ⟨b,5,none⟩ = some (tx r.txt)
theorem BoxQ.new (w:World) (r:Rl):BoxQ (w.alloc (.cells #[tx r.frm.name,.int .i64 r.frm.kind,tx r.frm.text,.int .i64 r.act,tx r.tgt,tx r.txt] 145)) w.heap.size r:=by
 constructor <;> simp [go_sem]
theorem BoxQ.later {w w':World} {b:Nat} {r:Rl} (h:BoxQ w b r) (hb:Below w.heap.size w w'):BoxQ w' b r:=by
 have hl:b < w.heap.size:=World.block_lt_of_cell? _ _ h.c0
 exact ⟨(hb.cell (p:=⟨b,0,none⟩) hl).trans h.c0,(hb.cell (p:=⟨b,1,none⟩) hl).trans h.c1,(hb.cell (p:=⟨b,2,none⟩) hl).trans h.c2,(hb.cell (p:=⟨b,3,none⟩) hl).trans h.c3,(hb.cell (p:=⟨b,4,none⟩) hl).trans h.c4,(hb.cell (p:=⟨b,5,none⟩) hl).trans h.c5⟩
theorem isQ_any (r:Rl) (w:World) (hf:FitR r):Calls Tryz.prog 102 #[qv r] w fun e w'=>e = .returned (.bool (fRule r)) ∧ Below w.heap.size w w':=by
 have hism:=fun W=>isM_any r.frm W hf.1
 have hnm:=fun W=>zbx r.tgt W (by have:=hf.2.2.1;unfold Big at this;omega)
 have htx:=zhf r.txt
 have htf:=zhf r.frm.text
 have hsn:=zfv r
 have hbx:=BoxQ.new w r
 have hb0:=bal (Below.refl _ w) (.cells #[tx r.frm.name,.int .i64 r.frm.kind,tx r.frm.text,.int .i64 r.act,tx r.tgt,tx r.txt] 145)
 unfold fRule
 clear hf
 obtain ⟨act,⟨nn,kk,tt⟩,tgt,txt⟩:=r
 dsimp only at *
 generalize hfm:fMat ⟨nn,kk,tt⟩ = fm at *
 generalize hfn:fName tgt = fn at *
 generalize hft:fText txt = ft at *
 generalize hfu:fText tt = fu at *
 generalize hfb:bare ⟨act,⟨nn,kk,tt⟩,tgt,txt⟩ = fb at *
 clear hfm hfn hft hfu hfb
 by_cases h1:act = 1
 ·
  subst h1
  cases fm with
  | false=>
   go_enter Tryz.func102,Tryz.ntmps102
   go_wp2_with fail
   generalize w.alloc (.cells _ 145) = w0 at *
   refine (hism _).mono ?_
   rintro e w1 ⟨rfl,hb1⟩
   have B1:=Below.chain hb0 hb1
   have hbx1:=hbx.later hb1
   go_wp2_with fail
   go_ret
   exact ⟨by simp,B1⟩
  | true=>
   go_enter Tryz.func102,Tryz.ntmps102
   go_wp2_with fail
   generalize w.alloc (.cells _ 145) = w0 at *
   refine (hism _).mono ?_
   rintro e w1 ⟨rfl,hb1⟩
   have B1:=Below.chain hb0 hb1
   have hbx1:=hbx.later hb1
   have cc:=hbx1
   obtain ⟨c0,c1,c2,c3,c4,c5⟩:=cc
   dsimp only at c0 c1 c2 c3 c4 c5
   go_wp2_with fail
   refine (hsn _).mono ?_
   rintro e w2 ⟨rfl,hb2⟩
   have B2:=Below.chain B1 hb2
   have hbx2:=hbx1.later hb2
   go_wp2_with fail
   go_ret
   exact ⟨by simp,B2⟩
 have t1:(act == 1) = false:=by simpa using h1
 by_cases h2:act = 2
 ·
  subst h2
  cases fm with
  | false=>
   go_enter Tryz.func102,Tryz.ntmps102
   go_wp2_with fail
   generalize w.alloc (.cells _ 145) = w0 at *
   refine (hism _).mono ?_
   rintro e w1 ⟨rfl,hb1⟩
   have B1:=Below.chain hb0 hb1
   have hbx1:=hbx.later hb1
   go_wp2_with fail
   go_ret
   exact ⟨by simp,B1⟩
  | true=>
   go_enter Tryz.func102,Tryz.ntmps102
   go_wp2_with fail
   generalize w.alloc (.cells _ 145) = w0 at *
   refine (hism _).mono ?_
   rintro e w1 ⟨rfl,hb1⟩
   have B1:=Below.chain hb0 hb1
   have hbx1:=hbx.later hb1
   have cc:=hbx1
   obtain ⟨c0,c1,c2,c3,c4,c5⟩:=cc
   dsimp only at c0 c1 c2 c3 c4 c5
   go_wp2_with fail
   refine (hsn _).mono ?_
   rintro e w2 ⟨rfl,hb2⟩
   have B2:=Below.chain B1 hb2
   have hbx2:=hbx1.later hb2
   go_wp2_with fail
   go_ret
   exact ⟨by simp,B2⟩
 have t2:(act == 2) = false:=by simpa using h2
 by_cases h3:act = 3
 ·
  subst h3
  cases fm with
  | false=>
   go_enter Tryz.func102,Tryz.ntmps102
   go_wp2_with fail
   generalize w.alloc (.cells _ 145) = w0 at *
   refine (hism _).mono ?_
   rintro e w1 ⟨rfl,hb1⟩
   have B1:=Below.chain hb0 hb1
   have hbx1:=hbx.later hb1
   go_wp2_with fail
   go_ret
   exact ⟨by simp,B1⟩
  | true=>
   cases fn with
   | false=>
    go_enter Tryz.func102,Tryz.ntmps102
    go_wp2_with fail
    generalize w.alloc (.cells _ 145) = w0 at *
    refine (hism _).mono ?_
    rintro e w1 ⟨rfl,hb1⟩
    have B1:=Below.chain hb0 hb1
    have hbx1:=hbx.later hb1
    have cc:=hbx1
    obtain ⟨c0,c1,c2,c3,c4,c5⟩:=cc
    dsimp only at c0 c1 c2 c3 c4 c5
    go_wp2_with fail
    refine (hnm _).mono ?_
    rintro e w2 ⟨rfl,rfl⟩
    go_wp2_with fail
    go_ret
    exact ⟨by simp,B1⟩
   | true=>
    go_enter Tryz.func102,Tryz.ntmps102
    go_wp2_with fail
    generalize w.alloc (.cells _ 145) = w0 at *
    refine (hism _).mono ?_
    rintro e w1 ⟨rfl,hb1⟩
    have B1:=Below.chain hb0 hb1
    have hbx1:=hbx.later hb1
    have cc:=hbx1
    obtain ⟨c0,c1,c2,c3,c4,c5⟩:=cc
    dsimp only at c0 c1 c2 c3 c4 c5
    go_wp2_with fail
    refine (hnm _).mono ?_
    rintro e w2 ⟨rfl,rfl⟩
    go_wp2_with fail
    refine (htx _).mono ?_
    rintro e w3 ⟨rfl,rfl⟩
    go_wp2_with fail
    go_ret
    exact ⟨by simp,B1⟩
 have t3:(act == 3) = false:=by simpa using h3
 by_cases h4:act = 4
 ·
  subst h4
  by_cases en:nn = []
  ·
   have en':=emp_t en
   clear en
   by_cases ek:kk = 0
   ·
    subst ek
    cases fu with
    | false=>
     go_enter Tryz.func102,Tryz.ntmps102
     go_wp2_with fail
     generalize w.alloc (.cells _ 145) = w0 at *
     refine (htf _).mono ?_
     rintro e w1 ⟨rfl,rfl⟩
     go_wp2_with fail
     go_ret
     exact ⟨by simp,hb0⟩
    | true=>
     go_enter Tryz.func102,Tryz.ntmps102
     go_wp2_with fail
     generalize w.alloc (.cells _ 145) = w0 at *
     have cc:=hbx
     obtain ⟨c0,c1,c2,c3,c4,c5⟩:=cc
     dsimp only at c0 c1 c2 c3 c4 c5
     refine (htf _).mono ?_
     rintro e w1 ⟨rfl,rfl⟩
     go_wp2_with fail
     refine (hsn _).mono ?_
     rintro e w2 ⟨rfl,hb2⟩
     have B2:=Below.chain hb0 hb2
     have hbx2:=hbx.later hb2
     go_wp2_with fail
     go_ret
     exact ⟨by simp,B2⟩
   have ek':(kk == 0) = false:=by simpa using ek
   go_enter Tryz.func102,Tryz.ntmps102
   go_wp2_with fail
   generalize w.alloc (.cells _ 145) = w0 at *
   go_ret
   exact ⟨by simp,hb0⟩
  have en':=emp_f en
  go_enter Tryz.func102,Tryz.ntmps102
  go_wp2_with fail
  generalize w.alloc (.cells _ 145) = w0 at *
  go_ret
  exact ⟨by simp,hb0⟩
 have t4:(act == 4) = false:=by simpa using h4
 go_enter Tryz.func102,Tryz.ntmps102
 go_wp2_with fail
 go_ret
 exact ⟨by simp,hb0⟩
theorem isR_any (r:Rl) (w:World) (hf:FitR r):Calls Tryz.prog 57 #[rv r] w fun e w'=>e = .returned (.bool (fRule r)) ∧ Below w.heap.size w w':=by
 have hq:=fun W=>isQ_any r W hf
 have hro:=zdk r
 have hb0:=bal (Below.refl _ w) (.cells #[.int .i64 r.act,tx r.frm.name,.int .i64 r.frm.kind,tx r.frm.text,tx r.tgt,tx r.txt] 59)
 generalize fRule r = x at *
 clear hf
 obtain ⟨act,⟨nn,kk,tt⟩,tgt,txt⟩:=r
 go_enter Tryz.func57,Tryz.ntmps57
 go_wp2_with fail
 generalize w.alloc (.cells _ 59) = w0 at *
 refine (hro _).mono ?_
 rintro e w1 ⟨rfl,hb1⟩
 go_wp2_with fail
 refine (hq _).mono ?_
 rintro e w2 ⟨rfl,hb2⟩
 go_wp2_with fail
 go_ret
 exact ⟨rfl,Below.chain (Below.chain hb0 hb1) hb2⟩
theorem zmt (s:Str) (c:UInt8) (new:Str) (w:World) (hs:s.length ≤ 1000000) (hn:new.length ≤ 1000) (hm:Mx w) :
  Calls Tryz.prog 301 #[tx s,.string ⟨#[c]⟩,tx new] w fun e w'=>e = .returned (tx (Lib.replaceAll s [c] new)) ∧ Below w.heap.size w w':=by
 obtain ⟨m,hm⟩:=hm
 have hb:Lib.countB (⟨s.toArray⟩:ByteArray) ⟨#[c]⟩ ≤ s.length:=znq s c
 have h3:Lib.countB (⟨s.toArray⟩:ByteArray) ⟨#[c]⟩ * new.length ≤ s.length * 1000:=Nat.mul_le_mul hb hn
 refine (Tryz.strings_ReplaceAll ⟨s.toArray⟩ ⟨#[c]⟩ ⟨new.toArray⟩ m w (by rw [zau];omega) hm (Nat.le_refl 1) (by rw [zau,zau];omega)).mono ?_
 rintro e w' ⟨rfl,hb⟩
 exact ⟨rfl,hb⟩
theorem zdc (v:Str):(Lib.replaceAll v [92] [92,92]).length ≤ 2 * v.length:=by
 rw [zbg _ _ _ (by simp)]
 induction v with
 | nil=>simp
 | cons x v ih=>
  rw [List.flatMap_cons,List.length_append,List.length_cons]
  have:(if x = 92 then ([92,92]:Str) else [x]).length ≤ 2:=by split <;> simp
  omega
theorem zdy (s:Str) (w:World) (hs:s.length ≤ 1000) (hm:Mx w):Calls Tryz.prog 251 #[tx s] w fun e w'=>e = .returned (tx (quo s)) ∧ Below w.heap.size w w':=by
 have h1:=zmt s 92 [92,92] w (by omega) (by simp) hm
 have hl:=zdc s
 have h2:=fun W (hW:Below w.heap.size w W)=>zmt (Lib.replaceAll s [92] [92,92]) 34 [92,34] W (by omega) (by simp) (hm.later hW)
 rw [esc_eq] at h2
 have hel:=zez s
 unfold quo
 generalize Lib.replaceAll s [92] [92,92] = u at *
 generalize esc s = v at *
 have a1:(⟨#[34]⟩:ByteArray) ++ ⟨v.toArray⟩ = ⟨([34] ++ v).toArray⟩:=zbc [34] v
 have a2:(⟨([34] ++ v).toArray⟩:ByteArray) ++ ⟨#[34]⟩ = ⟨([34] ++ v ++ [34]).toArray⟩:=zbc ([34] ++ v) [34]
 have l1:([34] ++ v).length ≤ 2001:=by simp;omega
 generalize [34] ++ v ++ [34] = q2 at *
 generalize [34] ++ v = q1 at *
 clear hl
 go_enter Tryz.func251,Tryz.ntmps251
 go_wp2_with fail
 refine h1.mono ?_
 rintro e w1 ⟨rfl,hb1⟩
 go_wp2_with fail
 refine (h2 _ hb1).mono ?_
 rintro e w2 ⟨rfl,hb2⟩
 go_wp2
 go_ret
 exact ⟨rfl,Below.chain hb1 hb2⟩
theorem zhx (k:Int) (w:World):Calls Tryz.prog 300 #[.int .i64 k] w fun e w'=>e = .returned (tx (signT k)) ∧ w = w':=by
 unfold signT
 by_cases h1:k = 1
 ·
  subst h1
  go_enter Tryz.func300,Tryz.ntmps300
  go_wp2_with fail
  go_ret
  exact ⟨rfl,rfl⟩
 have t1:(k == 1) = false:=by simpa using h1
 by_cases h2:k = 2
 ·
  subst h2
  go_enter Tryz.func300,Tryz.ntmps300
  go_wp2_with fail
  go_ret
  exact ⟨rfl,rfl⟩
 have t2:(k == 2) = false:=by simpa using h2
 by_cases h3:k = 3
 ·
  subst h3
  go_enter Tryz.func300,Tryz.ntmps300
  go_wp2_with fail
  go_ret
  exact ⟨rfl,rfl⟩
 have t3:(k == 3) = false:=by simpa using h3
 go_enter Tryz.func300,Tryz.ntmps300
 go_wp2_with fail
 go_ret
 exact ⟨rfl,rfl⟩
theorem zfn (k:Int):(signT k).length ≤ 2:=by
 unfold signT
 split
 ·
  simp
 split
 ·
  simp
 split <;> simp
def Short (r:Rl):Prop:=r.frm.name.length ≤ 100 ∧ r.frm.text.length ≤ 100 ∧ r.tgt.length ≤ 100 ∧ r.txt.length ≤ 100
theorem quo_len (s:Str):(quo s).length ≤ 2 * s.length + 2:=by
 have:=zez s
 unfold quo
 simp
 omega
theorem zil (r:Rl) (w:World) (hf:Short r) (hm:Mx w):Calls Tryz.prog 250 #[qv r] w fun e w'=>e = .returned (tx (condT r.frm)) ∧ Below w.heap.size w w':=by
 have hsg:=zhx r.frm.kind
 have hqu:=fun W (h:Mx W)=>zdy r.frm.text W (by have:=hf.2.1;omega) h
 have hbx:=BoxQ.new w r
 have hb0:=bal (Below.refl _ w) (.cells #[tx r.frm.name,.int .i64 r.frm.kind,tx r.frm.text,.int .i64 r.act,tx r.tgt,tx r.txt] 145)
 have hmx:=hm.later hb0
 have hl1:=hf.1
 have hl2:=hf.2.1
 have hl3:=zfn r.frm.kind
 have hl4:=quo_len r.frm.text
 obtain ⟨act,⟨nn,kk,tt⟩,tgt,txt⟩:=r
 dsimp only at hl1 hl2 hl3 hl4 hsg hqu
 unfold condT
 dsimp only
 generalize signT kk = sg at *
 generalize quo tt = qt at *
 obtain ⟨q1,H1⟩:∃ q,Hid (q = nn ++ [32]):=⟨nn ++ [32],(rfl:nn ++ [32] = nn ++ [32])⟩
 obtain ⟨q2,H2⟩:∃ q,Hid (q = q1 ++ sg):=⟨q1 ++ sg,(rfl:q1 ++ sg = q1 ++ sg)⟩
 obtain ⟨q3,H3⟩:∃ q,Hid (q = q2 ++ [32]):=⟨q2 ++ [32],(rfl:q2 ++ [32] = q2 ++ [32])⟩
 obtain ⟨q4,H4⟩:∃ q,Hid (q = q3 ++ qt):=⟨q3 ++ qt,(rfl:q3 ++ qt = q3 ++ qt)⟩
 have k1:q1.length ≤ 101:=by rw [H1.out];simp;omega
 have k2:q2.length ≤ 103:=by rw [H2.out];simp;omega
 have k3:q3.length ≤ 104:=by rw [H3.out];simp;omega
 have HR:Hid (nn ++ [32] ++ sg ++ [32] ++ qt = q4):=by show _ = _;rw [H4.out,H3.out,H2.out,H1.out]
 clear hm hf
 go_enter Tryz.func250,Tryz.ntmps250
 go_wp2_with fail
 generalize w.alloc (.cells _ 145) = w0 at *
 have C0:Below w0.heap.size w0 w0.drew:=(Below.refl _ _).drew
 refine wp_region_noPanic ?_
 refine wp_region_held_drew (S:=fun W=>Below w0.heap.size w0 W) (by kernel_rfl) ?_ (fun _=>?_)
 ·
  exact C0
 generalize w0.drew = wd at *
 refine tk 0 3 (.pointer (some ⟨w.heap.size,0,none⟩)) rfl (fun W hSw=>by go_simp) C0 ?_
 simp only [Act.put,pB,pC,pD]
 refine tk 1 4 (.pointer (some ⟨w.heap.size,0,none⟩)) rfl (fun W hSw=>by go_simp) C0 ?_
 simp only [Act.put,pB,pC,pD]
 refine tk 2 5 (tx nn) rfl (fun W hSw=>by have c0:=(hbx.later hSw).c0;dsimp only at c0;go_simp) C0 ?_
 simp only [Act.put,pB,pC,pD]
 refine tk 3 6 (tx q1) rfl (fun W hSw=>by exact zam rfl nn [32] rfl rfl (by simp;omega) q1 H1.out W) C0 ?_
 simp only [Act.put,pB,pC,pD]
 refine tk 4 7 (.pointer (some ⟨w.heap.size,0,none⟩)) rfl (fun W hSw=>by go_simp) C0 ?_
 simp only [Act.put,pB,pC,pD]
 refine tk 5 8 (.pointer (some ⟨w.heap.size,1,none⟩)) rfl (fun W hSw=>by go_simp) C0 ?_
 simp only [Act.put,pB,pC,pD]
 refine tk 6 9 (.int .i64 kk) rfl (fun W hSw=>by have c0:=(hbx.later hSw).c1;dsimp only at c0;go_simp) C0 ?_
 simp only [Act.put,pB,pC,pD]
 refine tk 10 13 (.pointer (some ⟨w.heap.size,0,none⟩)) rfl (fun W hSw=>by go_simp) C0 ?_
 simp only [Act.put,pB,pC,pD]
 refine tk 11 14 (.pointer (some ⟨w.heap.size,2,none⟩)) rfl (fun W hSw=>by go_simp) C0 ?_
 simp only [Act.put,pB,pC,pD]
 refine tk 12 15 (tx tt) rfl (fun W hSw=>by have c0:=(hbx.later hSw).c2;dsimp only at c0;go_simp) C0 ?_
 simp only [Act.put,pB,pC,pD]
 refine wpAnyH_ready (rs:=[7]) (by kernel_rfl) (by simp) ?_
 refine aR rfl fun K hK=>?_
 go_simp
 refine (hsg _).mono ?_
 rintro e wc1 ⟨rfl,rfl⟩
 refine hK.out _ _ ?_ (fun _=>?_)
 ·
  exact C0
 clear hK K
 refine tk 8 11 (tx q2) rfl (fun W hSw=>by exact zam rfl q1 sg rfl rfl (by omega) q2 H2.out W) C0 ?_
 simp only [Act.put,pB,pC,pD]
 refine tk 9 12 (tx q3) rfl (fun W hSw=>by exact zam rfl q2 [32] rfl rfl (by simp;omega) q3 H3.out W) C0 ?_
 simp only [Act.put,pB,pC,pD]
 refine wpAnyH_ready (rs:=[13]) (by kernel_rfl) (by simp) ?_
 refine aR rfl fun K hK=>?_
 go_simp
 refine (hqu _ (hmx.later C0)).mono ?_
 rintro e wc2 ⟨rfl,hc2⟩
 have C2:=Below.chain C0 hc2
 refine hK.out _ _ ?_ (fun _=>?_)
 ·
  exact C2
 clear hK K
 refine tk 14 17 (tx q4) rfl (fun W hSw=>by exact zam rfl q3 qt rfl rfl (by omega) q4 H4.out W) C2 ?_
 simp only [Act.put,pB,pC,pD]
 refine tk 15 2 (tx q4) rfl (fun W hSw=>by go_simp) C2 ?_
 simp only [Act.put,pB,pC,pD]
 refine wpAnyH_done (by kernel_rfl) ?_ _
 refine NoPanic.normal ?_
 go_wp2_with fail
 go_ret
 exact ⟨by rw [HR.out];rfl,Below.chain hb0 C2⟩
theorem cond_len (m:Mt) (h1:m.name.length ≤ 100) (h2:m.text.length ≤ 100):(condT m).length ≤ 1000:=by
 have:=zfn m.kind
 have:=quo_len m.text
 unfold condT
 simp
 omega
theorem line_any (r:Rl) (w:World) (hf:Short r) (hm:Mx w):Calls Tryz.prog 189 #[qv r] w fun e w'=>e = .returned (tx (lineT r)) ∧ Below w.heap.size w w':=by
 have hcd:=fun W (h:Mx W)=>zil r W hf h
 have hqt:=fun W (h:Mx W)=>zdy r.txt W (by have:=hf.2.2.2;omega) h
 have hqf:=fun W (h:Mx W)=>zdy r.frm.text W (by have:=hf.2.1;omega) h
 have hbx:=BoxQ.new w r
 have hb0:=bal (Below.refl _ w) (.cells #[tx r.frm.name,.int .i64 r.frm.kind,tx r.frm.text,.int .i64 r.act,tx r.tgt,tx r.txt] 145)
 have hmx:=hm.later hb0
 have hl1:=cond_len r.frm hf.1 hf.2.1
 have hl2:=quo_len r.txt
 have hl3:=hf.2.2.1
 have hl4:=hf.2.2.2
 have hl5:=quo_len r.frm.text
 have hl6:=hf.2.1
 unfold lineT
 obtain ⟨act,⟨nn,kk,tt⟩,tgt,txt⟩:=r
 dsimp only at *
 generalize condT ⟨nn,kk,tt⟩ = cd at *
 generalize quo txt = qt at *
 generalize quo tt = qf at *
 clear hm hf
 by_cases h1:act = 1
 ·
  subst h1
  have a1:(⟨#[107,101,101,112,32]⟩:ByteArray) ++ ⟨cd.toArray⟩ = ⟨(keepT ++ cd).toArray⟩:=zbc keepT cd
  generalize keepT ++ cd = q1 at *
  go_enter Tryz.func189,Tryz.ntmps189
  go_wp2_with fail
  generalize w.alloc (.cells _ 145) = w0 at *
  refine (hcd _ hmx).mono ?_
  rintro e w1 ⟨rfl,hb1⟩
  go_wp2_with fail
  go_ret
  exact ⟨rfl,Below.chain hb0 hb1⟩
 have t1:(act == 1) = false:=by simpa using h1
 rw [if_neg h1]
 by_cases h2:act = 2
 ·
  subst h2
  have a1:(⟨#[100,114,111,112,32]⟩:ByteArray) ++ ⟨cd.toArray⟩ = ⟨(dropT ++ cd).toArray⟩:=zbc dropT cd
  generalize dropT ++ cd = q1 at *
  go_enter Tryz.func189,Tryz.ntmps189
  go_wp2_with fail
  generalize w.alloc (.cells _ 145) = w0 at *
  refine (hcd _ hmx).mono ?_
  rintro e w1 ⟨rfl,hb1⟩
  go_wp2_with fail
  go_ret
  exact ⟨rfl,Below.chain hb0 hb1⟩
 have t2:(act == 2) = false:=by simpa using h2
 rw [if_neg h2]
 by_cases h3:act = 3
 ·
  subst h3
  rw [if_pos rfl]
  obtain ⟨q1,H1⟩:∃ q,Hid (q = replT ++ cd):=⟨replT ++ cd,(rfl:replT ++ cd = replT ++ cd)⟩
  obtain ⟨q2,H2⟩:∃ q,Hid (q = q1 ++ [32]):=⟨q1 ++ [32],(rfl:q1 ++ [32] = q1 ++ [32])⟩
  obtain ⟨q3,H3⟩:∃ q,Hid (q = q2 ++ tgt):=⟨q2 ++ tgt,(rfl:q2 ++ tgt = q2 ++ tgt)⟩
  obtain ⟨q4,H4⟩:∃ q,Hid (q = q3 ++ [32]):=⟨q3 ++ [32],(rfl:q3 ++ [32] = q3 ++ [32])⟩
  obtain ⟨q5,H5⟩:∃ q,Hid (q = q4 ++ qt):=⟨q4 ++ qt,(rfl:q4 ++ qt = q4 ++ qt)⟩
  have k1:q1.length ≤ 1008:=by rw [H1.out];simp [replT];omega
  have k2:q2.length ≤ 1009:=by rw [H2.out];simp;omega
  have k3:q3.length ≤ 1109:=by rw [H3.out];simp;omega
  have k4:q4.length ≤ 1110:=by rw [H4.out];simp;omega
  have HR:Hid (replT ++ cd ++ [32] ++ tgt ++ [32] ++ qt = q5):=by show _ = _;rw [H5.out,H4.out,H3.out,H2.out,H1.out]
  go_enter Tryz.func189,Tryz.ntmps189
  go_wp2_with fail
  generalize w.alloc (.cells _ 145) = w0 at *
  have C0:Below w0.heap.size w0 w0.drew:=(Below.refl _ _).drew
  refine wp_region_noPanic ?_
  refine wp_region_held_drew (S:=fun W=>Below w0.heap.size w0 W) (by kernel_rfl) ?_ (fun _=>?_)
  ·
   exact C0
  generalize w0.drew = wd at *
  refine tk 0 17 (qv ⟨3,⟨nn,kk,tt⟩,tgt,txt⟩) rfl (fun W hSw=>by obtain ⟨c0,c1,c2,c3,c4,c5⟩:=hbx.later hSw;dsimp only at c0 c1 c2 c3 c4 c5;go_simp) C0 ?_
  simp only [Act.put,pB,pC,pD]
  refine tk 4 21 (.pointer (some ⟨w.heap.size,4,none⟩)) rfl (fun W hSw=>by go_simp) C0 ?_
  simp only [Act.put,pB,pC,pD]
  refine tk 5 22 (tx tgt) rfl (fun W hSw=>by have c0:=(hbx.later hSw).c4;dsimp only at c0;go_simp) C0 ?_
  simp only [Act.put,pB,pC,pD]
  refine tk 8 25 (.pointer (some ⟨w.heap.size,5,none⟩)) rfl (fun W hSw=>by go_simp) C0 ?_
  simp only [Act.put,pB,pC,pD]
  refine tk 9 26 (tx txt) rfl (fun W hSw=>by have c0:=(hbx.later hSw).c5;dsimp only at c0;go_simp) C0 ?_
  simp only [Act.put,pB,pC,pD]
  refine wpAnyH_ready (rs:=[1]) (by kernel_rfl) (by simp) ?_
  refine aR rfl fun K hK=>?_
  go_simp
  refine (hcd _ (hmx.later C0)).mono ?_
  rintro e wc1 ⟨rfl,hc1⟩
  have C1:=Below.chain C0 hc1
  refine hK.out _ _ ?_ (fun _=>?_)
  ·
   exact C1
  clear hK K
  refine tk 2 19 (tx q1) rfl (fun W hSw=>by exact zam rfl replT cd rfl rfl (by simp [replT];omega) q1 H1.out W) C1 ?_
  simp only [Act.put,pB,pC,pD]
  refine tk 3 20 (tx q2) rfl (fun W hSw=>by exact zam rfl q1 [32] rfl rfl (by simp;omega) q2 H2.out W) C1 ?_
  simp only [Act.put,pB,pC,pD]
  refine tk 6 23 (tx q3) rfl (fun W hSw=>by exact zam rfl q2 tgt rfl rfl (by omega) q3 H3.out W) C1 ?_
  simp only [Act.put,pB,pC,pD]
  refine tk 7 24 (tx q4) rfl (fun W hSw=>by exact zam rfl q3 [32] rfl rfl (by simp;omega) q4 H4.out W) C1 ?_
  simp only [Act.put,pB,pC,pD]
  refine wpAnyH_ready (rs:=[10]) (by kernel_rfl) (by simp) ?_
  refine aR rfl fun K hK=>?_
  go_simp
  refine (hqt _ (hmx.later C1)).mono ?_
  rintro e wc2 ⟨rfl,hc2⟩
  have C2:=Below.chain C1 hc2
  refine hK.out _ _ ?_ (fun _=>?_)
  ·
   exact C2
  clear hK K
  refine tk 11 28 (tx q5) rfl (fun W hSw=>by exact zam rfl q4 qt rfl rfl (by omega) q5 H5.out W) C2 ?_
  simp only [Act.put,pB,pC,pD]
  refine tk 12 2 (tx q5) rfl (fun W hSw=>by go_simp) C2 ?_
  simp only [Act.put,pB,pC,pD]
  refine wpAnyH_done (by kernel_rfl) ?_ _
  refine NoPanic.normal ?_
  go_wp2_with fail
  go_ret
  exact ⟨by rw [HR.out];rfl,Below.chain hb0 C2⟩
 have t3:(act == 3) = false:=by simpa using h3
 rw [if_neg h3]
 have a1:(⟨#[108,97,98,101,108,100,114,111,112,32]⟩:ByteArray) ++ ⟨qf.toArray⟩ = ⟨(ldropT ++ qf).toArray⟩:=zbc ldropT qf
 generalize ldropT ++ qf = q1 at *
 go_enter Tryz.func189,Tryz.ntmps189
 go_wp2_with fail
 generalize w.alloc (.cells _ 145) = w0 at *
 refine (hqf _ hmx).mono ?_
 rintro e w1 ⟨rfl,hb1⟩
 go_wp2_with fail
 go_ret
 exact ⟨rfl,Below.chain hb0 hb1⟩
theorem zcl {w w':World} {p:Addr} {v:Value} (h:w.cell? p = some v) (hb:Below w.heap.size w w'):w'.cell? p = some v:=(hb.cell (p:=p) (World.block_lt_of_cell? _ _ h)).trans h
theorem zfy {m:Mt} (h:fMat m = true):m.name.length ≤ 20 ∧ m.text.length ≤ 30:=by
 unfold fMat at h
 simp only [Bool.and_eq_true,decide_eq_true_iff] at h
 exact ⟨(zcz h.1.1.1).2,h.1.2⟩
theorem zgv {s:Str} (h:fText s = true):s.length ≤ 30:=by
 unfold fText at h
 simp only [Bool.and_eq_true,decide_eq_true_iff] at h
 exact h.1
theorem zio {r:Rl} (h:bare r = true):r.tgt = [] ∧ r.txt = []:=by
 unfold bare at h
 simpa using h
theorem rule_short {r:Rl} (h:fRule r = true):Short r:=by
 unfold fRule at h
 unfold Short
 by_cases h1:r.act = 1
 ·
  rw [if_pos h1,Bool.and_eq_true] at h
  have a:=zfy h.1
  obtain ⟨b,c⟩:=zio h.2
  rw [b,c]
  exact ⟨by omega,by omega,by simp,by simp⟩
 by_cases h2:r.act = 2
 ·
  rw [if_neg h1,if_pos h2,Bool.and_eq_true] at h
  have a:=zfy h.1
  obtain ⟨b,c⟩:=zio h.2
  rw [b,c]
  exact ⟨by omega,by omega,by simp,by simp⟩
 by_cases h3:r.act = 3
 ·
  rw [if_neg h1,if_neg h2,if_pos h3,Bool.and_eq_true,Bool.and_eq_true] at h
  have a:=zfy h.1.1
  have b:=(zcz h.1.2).2
  have c:=zgv h.2
  exact ⟨by omega,by omega,by omega,by omega⟩
 by_cases h4:r.act = 4
 ·
  rw [if_neg h1,if_neg h2,if_neg h3,if_pos h4,Bool.and_eq_true,Bool.and_eq_true,Bool.and_eq_true] at h
  have a:r.frm.name = []:=by simpa using h.1.1.1
  have d:=zgv h.1.2
  obtain ⟨b,c⟩:=zio h.2
  rw [a,b,c]
  exact ⟨by simp,by omega,by simp,by simp⟩
 rw [if_neg h1,if_neg h2,if_neg h3,if_neg h4] at h
 cases h
open Go.RowKit
theorem printR_any (r:Rl) (w:World) (hf:FitR r) (hm:Mx w):Calls Tryz.prog 115 #[rv r] w fun e w'=>e = .returned (tx (fPrintR r)) ∧ Below w.heap.size w w':=by
 have hq:=fun W=>isR_any r W hf
 have hro:=zdk r
 have hli:=fun (h:Short r) W (hW:Mx W)=>line_any r W h hW
 have hsh:=@rule_short r
 have hb0:=bal (Below.refl _ w) (.cells #[.int .i64 r.act,tx r.frm.name,.int .i64 r.frm.kind,tx r.frm.text,tx r.tgt,tx r.txt] 59)
 have hc0:∀ k v,(#[.int .i64 r.act,tx r.frm.name,.int .i64 r.frm.kind,tx r.frm.text,tx r.tgt,tx r.txt]:Array Value)[k]? = some v → (w.alloc (.cells #[.int .i64 r.act,tx r.frm.name,.int .i64 r.frm.kind,tx r.frm.text,tx r.tgt,tx r.txt] 59)).cell? ⟨w.heap.size,k,none⟩ = some v:=fun k v h=>(World.cell?_alloc_new w _ _ k).trans h
 unfold fPrintR
 cases hr:fRule r with
 | false=>
  rw [hr] at hq
  clear hli hsh hro hr hf hc0
  obtain ⟨act,⟨nn,kk,tt⟩,tgt,txt⟩:=r
  go_enter Tryz.func115,Tryz.ntmps115
  go_wp2_with fail
  generalize w.alloc (.cells _ 59) = w0 at *
  refine (hq _).mono ?_
  rintro e w1 ⟨rfl,hb1⟩
  go_wp2_with fail
  go_ret
  exact ⟨by simp,Below.chain hb0 hb1⟩
 | true=>
  rw [hr] at hq
  have hl:=hli (hsh hr)
  clear hli hsh hr hf
  rw [if_pos rfl]
  generalize lineT r = lt at *
  obtain ⟨act,⟨nn,kk,tt⟩,tgt,txt⟩:=r
  have c0:=hc0 0 _ rfl
  have c1:=hc0 1 _ rfl
  have c2:=hc0 2 _ rfl
  have c3:=hc0 3 _ rfl
  have c4:=hc0 4 _ rfl
  have c5:=hc0 5 _ rfl
  dsimp only at c0 c1 c2 c3 c4 c5
  clear hc0
  go_enter Tryz.func115,Tryz.ntmps115
  go_wp2_with fail
  generalize w.alloc (.cells _ 59) = w0 at *
  refine (hq _).mono ?_
  rintro e w1 ⟨rfl,hb1⟩
  have e0:=zcl c0 hb1
  have e1:=zcl c1 hb1
  have e2:=zcl c2 hb1
  have e3:=zcl c3 hb1
  have e4:=zcl c4 hb1
  have e5:=zcl c5 hb1
  have B1:=Below.chain hb0 hb1
  go_wp2_with fail
  refine (hro _).mono ?_
  rintro e w2 ⟨rfl,hb2⟩
  have B2:=Below.chain B1 hb2
  go_wp2_with fail
  refine (hl _ (hm.later B2)).mono ?_
  rintro e w3 ⟨rfl,hb3⟩
  go_wp2_with fail
  go_ret
  exact ⟨rfl,Below.chain B2 hb3⟩
end Go.Proofs.YtjlaihekocjggaaGreatDoor.Lb
