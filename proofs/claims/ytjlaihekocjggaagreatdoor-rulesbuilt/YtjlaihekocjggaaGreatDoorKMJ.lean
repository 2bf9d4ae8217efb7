/- Texts that the others lean on. -/
import Derived.Test.YtjlaihekocjggaaGreatDoorKMI
set_option maxHeartbeats 16000000
namespace Go.Proofs.YtjlaihekocjggaaGreatDoor
open Go.RowKit
def alk (a b:Ex):Bool:=a.k == b.k && nEq a.o a.v b.o b.v && a.s == b.s && msEq a.m b.m && a.r == b.r && a.b1 == b.b1 && a.b2 == b.b2 && a.b3 == b.b3 && a.b4 == b.b4 && decide (a.ns = b.ns)
theorem alike_row {P P':Nat → Prop} {w:World} (k p:Int) (o:Bool) (v:Int) (s:Str) (am an:Option Addr) (nm cm nn cn:Nat) (r:Int) (b1 b2 b3 b4:Bool) (vk:Value) (m:List Mt) (ns:List Str)
  (k' p':Int) (o':Bool) (v':Int) (s':Str) (am' an':Option Addr) (nm' cm' nn' cn':Nat) (r':Int) (b1' b2' b3' b4':Bool) (vk':Value) (m':List Mt) (ns':List Str)
  (hm:SlP P w (.slice am nm cm) m.length (cellsM m)) (hm':SlP P' w (.slice am' nm' cm') m'.length (cellsM m')) (hn:SlP P w (.slice an nn cn) ns.length (ns.map tx)) (hn':SlP P' w (.slice an' nn' cn') ns'.length (ns'.map tx)) (hl:m.length ≤ 9223372036854775807) (hl':ns.length ≤ 9223372036854775807) :
  Calls Tryz.prog 43 #[.agg (exA k p o v s (.slice am nm cm) r b1 b2 b3 b4 (.slice an nn cn) vk),.agg (exA k' p' o' v' s' (.slice am' nm' cm') r' b1' b2' b3' b4' (.slice an' nn' cn') vk')] w fun e w'=>e = .returned (.bool ((k == k') && nEq o v o' v' && s == s' && msEq m m' && r == r' && b1 == b1' && b2 == b2' && b3 == b3' && b4 == b4' && decide (ns = ns'))) ∧ Below w.heap.size w w':=by
 have a1:=bal (Below.refl w.heap.size w) (.cells (exA k p o v s (.slice am nm cm) r b1 b2 b3 b4 (.slice an nn cn) vk) 28)
 have B2:=bal a1 (.cells (exA k' p' o' v' s' (.slice am' nm' cm') r' b1' b2' b3' b4' (.slice an' nn' cn') vk') 28)
 have qa:=zab (bal (Below.refl (w.alloc (.cells (exA k p o v s (.slice am nm cm) r b1 b2 b3 b4 (.slice an nn cn) vk) 28)).heap.size (w.alloc (.cells (exA k p o v s (.slice am nm cm) r b1 b2 b3 b4 (.slice an nn cn) vk) 28))) (.cells (exA k' p' o' v' s' (.slice am' nm' cm') r' b1' b2' b3' b4' (.slice an' nn' cn') vk') 28)) (zac w (.cells (exA k p o v s (.slice am nm cm) r b1 b2 b3 b4 (.slice an nn cn) vk) 28))
 have qb:((w.alloc (.cells (exA k p o v s (.slice am nm cm) r b1 b2 b3 b4 (.slice an nn cn) vk) 28)).alloc (.cells (exA k' p' o' v' s' (.slice am' nm' cm') r' b1' b2' b3' b4' (.slice an' nn' cn') vk') 28)).heap[w.heap.size + 1]? = some (.cells (exA k' p' o' v' s' (.slice am' nm' cm') r' b1' b2' b3' b4' (.slice an' nn' cn') vk') 28):=by
  have h:=zac (w.alloc (.cells (exA k p o v s (.slice am nm cm) r b1 b2 b3 b4 (.slice an nn cn) vk) 28)) (.cells (exA k' p' o' v' s' (.slice am' nm' cm') r' b1' b2' b3' b4' (.slice an' nn' cn') vk') 28)
  rw [zdv] at h
  exact h
 have hM:=fun W (hW2:Below w.heap.size w W)=>eqM_any (SlP.later hm hW2) (SlP.later hm' hW2) hl
 have hN:=fun W (hW2:Below w.heap.size w W)=>eqS_any (SlP.later hn hW2) (SlP.later hn' hW2) hl'
 have eq:=fun W=>eql_num o o' v v' W
 have eg:=fun x y W=>guard_num x y #[.bool o,.int .i64 v] #[.bool o',.int .i64 v'] W
 clear hm hm' hn hn' hl hl' a1
 cases h0:(k == k') with
 | false=>
  go_enter Tryz.func43,Tryz.ntmps43
  have x0:=(zaa qa 0).trans rfl
  have y0:=(zaa qb 0).trans rfl
  have x1:=(zaa qa 1).trans rfl
  have y1:=(zaa qb 1).trans rfl
  have x2:=(zaa qa 2).trans rfl
  have y2:=(zaa qb 2).trans rfl
  have x3:=(zaa qa 3).trans rfl
  have y3:=(zaa qb 3).trans rfl
  have x4:=(zaa qa 4).trans rfl
  have y4:=(zaa qb 4).trans rfl
  have x5:=(zaa qa 5).trans rfl
  have y5:=(zaa qb 5).trans rfl
  have x6:=(zaa qa 6).trans rfl
  have y6:=(zaa qb 6).trans rfl
  have x7:=(zaa qa 7).trans rfl
  have y7:=(zaa qb 7).trans rfl
  have x8:=(zaa qa 8).trans rfl
  have y8:=(zaa qb 8).trans rfl
  have x9:=(zaa qa 9).trans rfl
  have y9:=(zaa qb 9).trans rfl
  have x10:=(zaa qa 10).trans rfl
  have y10:=(zaa qb 10).trans rfl
  have x11:=(zaa qa 11).trans rfl
  have y11:=(zaa qb 11).trans rfl
  have x12:=(zaa qa 12).trans rfl
  have y12:=(zaa qb 12).trans rfl
  go_wp2_with fail
  go_ret
  exact ⟨by simp,B2⟩
 | true=>
  cases h1:nEq o v o' v' with
  | false=>
   rw [h1] at eq
   go_enter Tryz.func43,Tryz.ntmps43
   have x0:=(zaa qa 0).trans rfl
   have y0:=(zaa qb 0).trans rfl
   have x1:=(zaa qa 1).trans rfl
   have y1:=(zaa qb 1).trans rfl
   have x2:=(zaa qa 2).trans rfl
   have y2:=(zaa qb 2).trans rfl
   have x3:=(zaa qa 3).trans rfl
   have y3:=(zaa qb 3).trans rfl
   have x4:=(zaa qa 4).trans rfl
   have y4:=(zaa qb 4).trans rfl
   have x5:=(zaa qa 5).trans rfl
   have y5:=(zaa qb 5).trans rfl
   have x6:=(zaa qa 6).trans rfl
   have y6:=(zaa qb 6).trans rfl
   have x7:=(zaa qa 7).trans rfl
   have y7:=(zaa qb 7).trans rfl
   have x8:=(zaa qa 8).trans rfl
   have y8:=(zaa qb 8).trans rfl
   have x9:=(zaa qa 9).trans rfl
   have y9:=(zaa qb 9).trans rfl
   have x10:=(zaa qa 10).trans rfl
   have y10:=(zaa qb 10).trans rfl
   have x11:=(zaa qa 11).trans rfl
   have y11:=(zaa qb 11).trans rfl
   have x12:=(zaa qa 12).trans rfl
   have y12:=(zaa qb 12).trans rfl
   go_wp2_with fail
   go_ret
   exact ⟨by simp,B2⟩
  | true=>
   rw [h1] at eq
   cases h2:(s == s') with
   | false=>
    go_enter Tryz.func43,Tryz.ntmps43
    have x0:=(zaa qa 0).trans rfl
    have y0:=(zaa qb 0).trans rfl
    have x1:=(zaa qa 1).trans rfl
    have y1:=(zaa qb 1).trans rfl
    have x2:=(zaa qa 2).trans rfl
    have y2:=(zaa qb 2).trans rfl
    have x3:=(zaa qa 3).trans rfl
    have y3:=(zaa qb 3).trans rfl
    have x4:=(zaa qa 4).trans rfl
    have y4:=(zaa qb 4).trans rfl
    have x5:=(zaa qa 5).trans rfl
    have y5:=(zaa qb 5).trans rfl
    have x6:=(zaa qa 6).trans rfl
    have y6:=(zaa qb 6).trans rfl
    have x7:=(zaa qa 7).trans rfl
    have y7:=(zaa qb 7).trans rfl
    have x8:=(zaa qa 8).trans rfl
    have y8:=(zaa qb 8).trans rfl
    have x9:=(zaa qa 9).trans rfl
    have y9:=(zaa qb 9).trans rfl
    have x10:=(zaa qa 10).trans rfl
    have y10:=(zaa qb 10).trans rfl
    have x11:=(zaa qa 11).trans rfl
    have y11:=(zaa qb 11).trans rfl
    have x12:=(zaa qa 12).trans rfl
    have y12:=(zaa qb 12).trans rfl
    go_wp2_with fail
    go_ret
    exact ⟨by simp,B2⟩
   | true=>
    cases h3:msEq m m' with
    | false=>
     rw [h3] at hM
     go_enter Tryz.func43,Tryz.ntmps43
     have x0:=(zaa qa 0).trans rfl
     have y0:=(zaa qb 0).trans rfl
     have x1:=(zaa qa 1).trans rfl
     have y1:=(zaa qb 1).trans rfl
     have x2:=(zaa qa 2).trans rfl
     have y2:=(zaa qb 2).trans rfl
     have x3:=(zaa qa 3).trans rfl
     have y3:=(zaa qb 3).trans rfl
     have x4:=(zaa qa 4).trans rfl
     have y4:=(zaa qb 4).trans rfl
     have x5:=(zaa qa 5).trans rfl
     have y5:=(zaa qb 5).trans rfl
     have x6:=(zaa qa 6).trans rfl
     have y6:=(zaa qb 6).trans rfl
     have x7:=(zaa qa 7).trans rfl
     have y7:=(zaa qb 7).trans rfl
     have x8:=(zaa qa 8).trans rfl
     have y8:=(zaa qb 8).trans rfl
     have x9:=(zaa qa 9).trans rfl
     have y9:=(zaa qb 9).trans rfl
     have x10:=(zaa qa 10).trans rfl
     have y10:=(zaa qb 10).trans rfl
     have x11:=(zaa qa 11).trans rfl
     have y11:=(zaa qb 11).trans rfl
     have x12:=(zaa qa 12).trans rfl
     have y12:=(zaa qb 12).trans rfl
     go_wp2_with fail
     refine (hM _ B2).mono ?_
     rintro e w1 ⟨rfl,b1x⟩
     have B3:=B2.trans (b1x.mono B2.size)
     have qa1:=zab b1x qa
     have qb1:=zab b1x qb
     clear x0 y0 x1 y1 x2 y2 x3 y3 x4 y4 x5 y5 x6 y6 x7 y7 x8 y8 x9 y9 x10 y10 x11 y11 x12 y12
     have x6:=(zaa qa1 6).trans rfl
     have y6:=(zaa qb1 6).trans rfl
     have x7:=(zaa qa1 7).trans rfl
     have y7:=(zaa qb1 7).trans rfl
     have x8:=(zaa qa1 8).trans rfl
     have y8:=(zaa qb1 8).trans rfl
     have x9:=(zaa qa1 9).trans rfl
     have y9:=(zaa qb1 9).trans rfl
     have x10:=(zaa qa1 10).trans rfl
     have y10:=(zaa qb1 10).trans rfl
     have x11:=(zaa qa1 11).trans rfl
     have y11:=(zaa qb1 11).trans rfl
     have x12:=(zaa qa1 12).trans rfl
     have y12:=(zaa qb1 12).trans rfl
     go_wp2_with fail
     go_ret
     exact ⟨by simp,B3⟩
    | true=>
     rw [h3] at hM
     cases h4:(r == r') with
     | false=>
      go_enter Tryz.func43,Tryz.ntmps43
      have x0:=(zaa qa 0).trans rfl
      have y0:=(zaa qb 0).trans rfl
      have x1:=(zaa qa 1).trans rfl
      have y1:=(zaa qb 1).trans rfl
      have x2:=(zaa qa 2).trans rfl
      have y2:=(zaa qb 2).trans rfl
      have x3:=(zaa qa 3).trans rfl
      have y3:=(zaa qb 3).trans rfl
      have x4:=(zaa qa 4).trans rfl
      have y4:=(zaa qb 4).trans rfl
      have x5:=(zaa qa 5).trans rfl
      have y5:=(zaa qb 5).trans rfl
      have x6:=(zaa qa 6).trans rfl
      have y6:=(zaa qb 6).trans rfl
      have x7:=(zaa qa 7).trans rfl
      have y7:=(zaa qb 7).trans rfl
      have x8:=(zaa qa 8).trans rfl
      have y8:=(zaa qb 8).trans rfl
      have x9:=(zaa qa 9).trans rfl
      have y9:=(zaa qb 9).trans rfl
      have x10:=(zaa qa 10).trans rfl
      have y10:=(zaa qb 10).trans rfl
      have x11:=(zaa qa 11).trans rfl
      have y11:=(zaa qb 11).trans rfl
      have x12:=(zaa qa 12).trans rfl
      have y12:=(zaa qb 12).trans rfl
      go_wp2_with fail
      refine (hM _ B2).mono ?_
      rintro e w1 ⟨rfl,b1x⟩
      have B3:=B2.trans (b1x.mono B2.size)
      have qa1:=zab b1x qa
      have qb1:=zab b1x qb
      clear x0 y0 x1 y1 x2 y2 x3 y3 x4 y4 x5 y5 x6 y6 x7 y7 x8 y8 x9 y9 x10 y10 x11 y11 x12 y12
      have x6:=(zaa qa1 6).trans rfl
      have y6:=(zaa qb1 6).trans rfl
      have x7:=(zaa qa1 7).trans rfl
      have y7:=(zaa qb1 7).trans rfl
      have x8:=(zaa qa1 8).trans rfl
      have y8:=(zaa qb1 8).trans rfl
      have x9:=(zaa qa1 9).trans rfl
      have y9:=(zaa qb1 9).trans rfl
      have x10:=(zaa qa1 10).trans rfl
      have y10:=(zaa qb1 10).trans rfl
      have x11:=(zaa qa1 11).trans rfl
      have y11:=(zaa qb1 11).trans rfl
      have x12:=(zaa qa1 12).trans rfl
      have y12:=(zaa qb1 12).trans rfl
      go_wp2_with fail
      go_ret
      exact ⟨by simp,B3⟩
     | true=>
      cases h5:(b1 == b1') with
      | false=>
       go_enter Tryz.func43,Tryz.ntmps43
       have x0:=(zaa qa 0).trans rfl
       have y0:=(zaa qb 0).trans rfl
       have x1:=(zaa qa 1).trans rfl
       have y1:=(zaa qb 1).trans rfl
       have x2:=(zaa qa 2).trans rfl
       have y2:=(zaa qb 2).trans rfl
       have x3:=(zaa qa 3).trans rfl
       have y3:=(zaa qb 3).trans rfl
       have x4:=(zaa qa 4).trans rfl
       have y4:=(zaa qb 4).trans rfl
       have x5:=(zaa qa 5).trans rfl
       have y5:=(zaa qb 5).trans rfl
       have x6:=(zaa qa 6).trans rfl
       have y6:=(zaa qb 6).trans rfl
       have x7:=(zaa qa 7).trans rfl
       have y7:=(zaa qb 7).trans rfl
       have x8:=(zaa qa 8).trans rfl
       have y8:=(zaa qb 8).trans rfl
       have x9:=(zaa qa 9).trans rfl
       have y9:=(zaa qb 9).trans rfl
       have x10:=(zaa qa 10).trans rfl
       have y10:=(zaa qb 10).trans rfl
       have x11:=(zaa qa 11).trans rfl
       have y11:=(zaa qb 11).trans rfl
       have x12:=(zaa qa 12).trans rfl
       have y12:=(zaa qb 12).trans rfl
       go_wp2_with fail
       refine (hM _ B2).mono ?_
       rintro e w1 ⟨rfl,b1x⟩
       have B3:=B2.trans (b1x.mono B2.size)
       have qa1:=zab b1x qa
       have qb1:=zab b1x qb
       clear x0 y0 x1 y1 x2 y2 x3 y3 x4 y4 x5 y5 x6 y6 x7 y7 x8 y8 x9 y9 x10 y10 x11 y11 x12 y12
       have x6:=(zaa qa1 6).trans rfl
       have y6:=(zaa qb1 6).trans rfl
       have x7:=(zaa qa1 7).trans rfl
       have y7:=(zaa qb1 7).trans rfl
       have x8:=(zaa qa1 8).trans rfl
       have y8:=(zaa qb1 8).trans rfl
       have x9:=(zaa qa1 9).trans rfl
       have y9:=(zaa qb1 9).trans rfl
       have x10:=(zaa qa1 10).trans rfl
       have y10:=(zaa qb1 10).trans rfl
       have x11:=(zaa qa1 11).trans rfl
       have y11:=(zaa qb1 11).trans rfl
       have x12:=(zaa qa1 12).trans rfl
       have y12:=(zaa qb1 12).trans rfl
       go_wp2_with fail
       go_ret
       exact ⟨by simp,B3⟩
      | true=>
       cases h6:(b2 == b2') with
       | false=>
        go_enter Tryz.func43,Tryz.ntmps43
        have x0:=(zaa qa 0).trans rfl
        have y0:=(zaa qb 0).trans rfl
        have x1:=(zaa qa 1).trans rfl
        have y1:=(zaa qb 1).trans rfl
        have x2:=(zaa qa 2).trans rfl
        have y2:=(zaa qb 2).trans rfl
        have x3:=(zaa qa 3).trans rfl
        have y3:=(zaa qb 3).trans rfl
        have x4:=(zaa qa 4).trans rfl
        have y4:=(zaa qb 4).trans rfl
        have x5:=(zaa qa 5).trans rfl
        have y5:=(zaa qb 5).trans rfl
        have x6:=(zaa qa 6).trans rfl
        have y6:=(zaa qb 6).trans rfl
        have x7:=(zaa qa 7).trans rfl
        have y7:=(zaa qb 7).trans rfl
        have x8:=(zaa qa 8).trans rfl
        have y8:=(zaa qb 8).trans rfl
        have x9:=(zaa qa 9).trans rfl
        have y9:=(zaa qb 9).trans rfl
        have x10:=(zaa qa 10).trans rfl
        have y10:=(zaa qb 10).trans rfl
        have x11:=(zaa qa 11).trans rfl
        have y11:=(zaa qb 11).trans rfl
        have x12:=(zaa qa 12).trans rfl
        have y12:=(zaa qb 12).trans rfl
        go_wp2_with fail
        refine (hM _ B2).mono ?_
        rintro e w1 ⟨rfl,b1x⟩
        have B3:=B2.trans (b1x.mono B2.size)
        have qa1:=zab b1x qa
        have qb1:=zab b1x qb
        clear x0 y0 x1 y1 x2 y2 x3 y3 x4 y4 x5 y5 x6 y6 x7 y7 x8 y8 x9 y9 x10 y10 x11 y11 x12 y12
        have x6:=(zaa qa1 6).trans rfl
        have y6:=(zaa qb1 6).trans rfl
        have x7:=(zaa qa1 7).trans rfl
        have y7:=(zaa qb1 7).trans rfl
        have x8:=(zaa qa1 8).trans rfl
        have y8:=(zaa qb1 8).trans rfl
        have x9:=(zaa qa1 9).trans rfl
        have y9:=(zaa qb1 9).trans rfl
        have x10:=(zaa qa1 10).trans rfl
        have y10:=(zaa qb1 10).trans rfl
        have x11:=(zaa qa1 11).trans rfl
        have y11:=(zaa qb1 11).trans rfl
        have x12:=(zaa qa1 12).trans rfl
        have y12:=(zaa qb1 12).trans rfl
        go_wp2_with fail
        go_ret
        exact ⟨by simp,B3⟩
       | true=>
        cases h7:(b3 == b3') with
        | false=>
         go_enter Tryz.func43,Tryz.ntmps43
         have x0:=(zaa qa 0).trans rfl
         have y0:=(zaa qb 0).trans rfl
         have x1:=(zaa qa 1).trans rfl
         have y1:=(zaa qb 1).trans rfl
         have x2:=(zaa qa 2).trans rfl
         have y2:=(zaa qb 2).trans rfl
         have x3:=(zaa qa 3).trans rfl
         have y3:=(zaa qb 3).trans rfl
         have x4:=(zaa qa 4).trans rfl
         have y4:=(zaa qb 4).trans rfl
         have x5:=(zaa qa 5).trans rfl
         have y5:=(zaa qb 5).trans rfl
         have x6:=(zaa qa 6).trans rfl
         have y6:=(zaa qb 6).trans rfl
         have x7:=(zaa qa 7).trans rfl
         have y7:=(zaa qb 7).trans rfl
         have x8:=(zaa qa 8).trans rfl
         have y8:=(zaa qb 8).trans rfl
         have x9:=(zaa qa 9).trans rfl
         have y9:=(zaa qb 9).trans rfl
         have x10:=(zaa qa 10).trans rfl
         have y10:=(zaa qb 10).trans rfl
         have x11:=(zaa qa 11).trans rfl
         have y11:=(zaa qb 11).trans rfl
         have x12:=(zaa qa 12).trans rfl
         have y12:=(zaa qb 12).trans rfl
         go_wp2_with fail
         refine (hM _ B2).mono ?_
         rintro e w1 ⟨rfl,b1x⟩
         have B3:=B2.trans (b1x.mono B2.size)
         have qa1:=zab b1x qa
         have qb1:=zab b1x qb
         clear x0 y0 x1 y1 x2 y2 x3 y3 x4 y4 x5 y5 x6 y6 x7 y7 x8 y8 x9 y9 x10 y10 x11 y11 x12 y12
         have x6:=(zaa qa1 6).trans rfl
         have y6:=(zaa qb1 6).trans rfl
         have x7:=(zaa qa1 7).trans rfl
         have y7:=(zaa qb1 7).trans rfl
         have x8:=(zaa qa1 8).trans rfl
         have y8:=(zaa qb1 8).trans rfl
         have x9:=(zaa qa1 9).trans rfl
         have y9:=(zaa qb1 9).trans rfl
         have x10:=(zaa qa1 10).trans rfl
         have y10:=(zaa qb1 10).trans rfl
         have x11:=(zaa qa1 11).trans rfl
         have y11:=(zaa qb1 11).trans rfl
         have x12:=(zaa qa1 12).trans rfl
         have y12:=(zaa qb1 12).trans rfl
         go_wp2_with fail
         go_ret
         exact ⟨by simp,B3⟩
        | true=>
         cases h8:(b4 == b4') with
         | false=>
          go_enter Tryz.func43,Tryz.ntmps43
          have x0:=(zaa qa 0).trans rfl
          have y0:=(zaa qb 0).trans rfl
          have x1:=(zaa qa 1).trans rfl
          have y1:=(zaa qb 1).trans rfl
          have x2:=(zaa qa 2).trans rfl
          have y2:=(zaa qb 2).trans rfl
          have x3:=(zaa qa 3).trans rfl
          have y3:=(zaa qb 3).trans rfl
          have x4:=(zaa qa 4).trans rfl
          have y4:=(zaa qb 4).trans rfl
          have x5:=(zaa qa 5).trans rfl
          have y5:=(zaa qb 5).trans rfl
          have x6:=(zaa qa 6).trans rfl
          have y6:=(zaa qb 6).trans rfl
          have x7:=(zaa qa 7).trans rfl
          have y7:=(zaa qb 7).trans rfl
          have x8:=(zaa qa 8).trans rfl
          have y8:=(zaa qb 8).trans rfl
          have x9:=(zaa qa 9).trans rfl
          have y9:=(zaa qb 9).trans rfl
          have x10:=(zaa qa 10).trans rfl
          have y10:=(zaa qb 10).trans rfl
          have x11:=(zaa qa 11).trans rfl
          have y11:=(zaa qb 11).trans rfl
          have x12:=(zaa qa 12).trans rfl
          have y12:=(zaa qb 12).trans rfl
          go_wp2_with fail
          refine (hM _ B2).mono ?_
          rintro e w1 ⟨rfl,b1x⟩
          have B3:=B2.trans (b1x.mono B2.size)
          have qa1:=zab b1x qa
          have qb1:=zab b1x qb
          clear x0 y0 x1 y1 x2 y2 x3 y3 x4 y4 x5 y5 x6 y6 x7 y7 x8 y8 x9 y9 x10 y10 x11 y11 x12 y12
          have x6:=(zaa qa1 6).trans rfl
          have y6:=(zaa qb1 6).trans rfl
          have x7:=(zaa qa1 7).trans rfl
          have y7:=(zaa qb1 7).trans rfl
          have x8:=(zaa qa1 8).trans rfl
          have y8:=(zaa qb1 8).trans rfl
          have x9:=(zaa qa1 9).trans rfl
          have y9:=(zaa qb1 9).trans rfl
          have x10:=(zaa qa1 10).trans rfl
          have y10:=(zaa qb1 10).trans rfl
          have x11:=(zaa qa1 11).trans rfl
          have y11:=(zaa qb1 11).trans rfl
          have x12:=(zaa qa1 12).trans rfl
          have y12:=(zaa qb1 12).trans rfl
          go_wp2_with fail
          go_ret
          exact ⟨by simp,B3⟩
         | true=>
          cases h9:decide (ns = ns') with
          | false=>
           rw [h9] at hN
           go_enter Tryz.func43,Tryz.ntmps43
           have x0:=(zaa qa 0).trans rfl
           have y0:=(zaa qb 0).trans rfl
           have x1:=(zaa qa 1).trans rfl
           have y1:=(zaa qb 1).trans rfl
           have x2:=(zaa qa 2).trans rfl
           have y2:=(zaa qb 2).trans rfl
           have x3:=(zaa qa 3).trans rfl
           have y3:=(zaa qb 3).trans rfl
           have x4:=(zaa qa 4).trans rfl
           have y4:=(zaa qb 4).trans rfl
           have x5:=(zaa qa 5).trans rfl
           have y5:=(zaa qb 5).trans rfl
           have x6:=(zaa qa 6).trans rfl
           have y6:=(zaa qb 6).trans rfl
           have x7:=(zaa qa 7).trans rfl
           have y7:=(zaa qb 7).trans rfl
           have x8:=(zaa qa 8).trans rfl
           have y8:=(zaa qb 8).trans rfl
           have x9:=(zaa qa 9).trans rfl
           have y9:=(zaa qb 9).trans rfl
           have x10:=(zaa qa 10).trans rfl
           have y10:=(zaa qb 10).trans rfl
           have x11:=(zaa qa 11).trans rfl
           have y11:=(zaa qb 11).trans rfl
           have x12:=(zaa qa 12).trans rfl
           have y12:=(zaa qb 12).trans rfl
           go_wp2_with fail
           refine (hM _ B2).mono ?_
           rintro e w1 ⟨rfl,b1x⟩
           have B3:=B2.trans (b1x.mono B2.size)
           have qa1:=zab b1x qa
           have qb1:=zab b1x qb
           clear x0 y0 x1 y1 x2 y2 x3 y3 x4 y4 x5 y5 x6 y6 x7 y7 x8 y8 x9 y9 x10 y10 x11 y11 x12 y12
           have x6:=(zaa qa1 6).trans rfl
           have y6:=(zaa qb1 6).trans rfl
           have x7:=(zaa qa1 7).trans rfl
           have y7:=(zaa qb1 7).trans rfl
           have x8:=(zaa qa1 8).trans rfl
           have y8:=(zaa qb1 8).trans rfl
           have x9:=(zaa qa1 9).trans rfl
           have y9:=(zaa qb1 9).trans rfl
           have x10:=(zaa qa1 10).trans rfl
           have y10:=(zaa qb1 10).trans rfl
           have x11:=(zaa qa1 11).trans rfl
           have y11:=(zaa qb1 11).trans rfl
           have x12:=(zaa qa1 12).trans rfl
           have y12:=(zaa qb1 12).trans rfl
           go_wp2_with fail
           refine (hN _ B3).mono ?_
           rintro e w2 ⟨rfl,b2x⟩
           have B4:=B3.trans (b2x.mono B3.size)
           go_wp2_with fail
           go_ret
           exact ⟨by simp,B4⟩
          | true=>
           rw [h9] at hN
           go_enter Tryz.func43,Tryz.ntmps43
           have x0:=(zaa qa 0).trans rfl
           have y0:=(zaa qb 0).trans rfl
           have x1:=(zaa qa 1).trans rfl
           have y1:=(zaa qb 1).trans rfl
           have x2:=(zaa qa 2).trans rfl
           have y2:=(zaa qb 2).trans rfl
           have x3:=(zaa qa 3).trans rfl
           have y3:=(zaa qb 3).trans rfl
           have x4:=(zaa qa 4).trans rfl
           have y4:=(zaa qb 4).trans rfl
           have x5:=(zaa qa 5).trans rfl
           have y5:=(zaa qb 5).trans rfl
           have x6:=(zaa qa 6).trans rfl
           have y6:=(zaa qb 6).trans rfl
           have x7:=(zaa qa 7).trans rfl
           have y7:=(zaa qb 7).trans rfl
           have x8:=(zaa qa 8).trans rfl
           have y8:=(zaa qb 8).trans rfl
           have x9:=(zaa qa 9).trans rfl
           have y9:=(zaa qb 9).trans rfl
           have x10:=(zaa qa 10).trans rfl
           have y10:=(zaa qb 10).trans rfl
           have x11:=(zaa qa 11).trans rfl
           have y11:=(zaa qb 11).trans rfl
           have x12:=(zaa qa 12).trans rfl
           have y12:=(zaa qb 12).trans rfl
           go_wp2_with fail
           refine (hM _ B2).mono ?_
           rintro e w1 ⟨rfl,b1x⟩
           have B3:=B2.trans (b1x.mono B2.size)
           have qa1:=zab b1x qa
           have qb1:=zab b1x qb
           clear x0 y0 x1 y1 x2 y2 x3 y3 x4 y4 x5 y5 x6 y6 x7 y7 x8 y8 x9 y9 x10 y10 x11 y11 x12 y12
           have x6:=(zaa qa1 6).trans rfl
           have y6:=(zaa qb1 6).trans rfl
           have x7:=(zaa qa1 7).trans rfl
           have y7:=(zaa qb1 7).trans rfl
           have x8:=(zaa qa1 8).trans rfl
           have y8:=(zaa qb1 8).trans rfl
           have x9:=(zaa qa1 9).trans rfl
           have y9:=(zaa qb1 9).trans rfl
           have x10:=(zaa qa1 10).trans rfl
           have y10:=(zaa qb1 10).trans rfl
           have x11:=(zaa qa1 11).trans rfl
           have y11:=(zaa qb1 11).trans rfl
           have x12:=(zaa qa1 12).trans rfl
           have y12:=(zaa qb1 12).trans rfl
           go_wp2_with fail
           refine (hN _ B3).mono ?_
           rintro e w2 ⟨rfl,b2x⟩
           have B4:=B3.trans (b2x.mono B3.size)
           go_wp2_with fail
           go_ret
           exact ⟨by simp,B4⟩
end Go.Proofs.YtjlaihekocjggaaGreatDoor
