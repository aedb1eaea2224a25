import PyProof.Rows.All
import Wide.All
import OpenK.AllK
import Wide.FinOn
import HandS.ForMost
import HandS.Codes
import PySem.Challenge.RW_saidandasked_k19_programs_answer_words
import HandS.ExcInit
import HandS.Nested
import KE.KExcSuper
import HandS.ExcIs
import HandS.IsInst
import HandS.ExcField
import KE.KExcIs
import HandS.AnyAll
import HandS.TupSets
import KE.KStateDown
import HandS.Base
import HandS.Call
import HandS.Ends
import HandS.More
import HandS.GenList
import PyProof.TupleOfGen
import HandS.Strs
import HandS.Zip
import KE.GoesMore
import KE.GoesZip
import HandS.Iter
import HandS.DictComp
import HandS.DictSub
import HandS.WordsExc
import HandS.Style
import HandS.TupAny
import KE.KEqNest
import PyProof.Rows.ReprOcc
import PyProof.FitsInt
import HandS.Text
import HandS.WideBits
import PyProof.P3Eq
import HandS.Lambda
import HandS.ExcValue
import HandS.RaiseMore
import HandS.EndTab
import HandS.Head0
import HandS.Head1
import HandS.Head2
import HandS.HeadHook1
import HandS.HeadHook2
set_option Elab.async false
set_option linter.all false
set_option maxRecDepth 100000
/-! The draws of the laws: begun, mixed, take, pick. -/
namespace Dw
open PySem PySem.Spec PyProof.Rows L2
def topS (i : Nat) : Stmt := PySem.Challenge.pw_saidandasked_k19_programs_answer_words.main.body.getD i (.Pass ⟨0, 0, 0, 0⟩)
abbrev sBegun : Stmt := topS 31
abbrev sMixed : Stmt := topS 32
abbrev sTake : Stmt := topS 33
abbrev sPick : Stmt := topS 34
theorem scB : FnScope ["script", "wide", "grain"] ["script"] (defScope sBegun) := ⟨rfl, rfl, rfl, by decide +kernel, rfl, by decide +kernel, by decide +kernel⟩
theorem scM : FnScope ["draw", "turn", "found", "prime", "blend", "grain"] ["draw"] (defScope sMixed) := ⟨rfl, rfl, rfl, by decide +kernel, rfl, by decide +kernel, by decide +kernel⟩
theorem scT : FnScope ["draw", "many", "found"] ["draw", "many"] (defScope sTake) := ⟨rfl, rfl, rfl, by decide +kernel, rfl, by decide +kernel, by decide +kernel⟩
theorem scP : FnScope ["draw", "some"] ["draw", "some"] (defScope sPick) := ⟨rfl, rfl, rfl, by decide +kernel, rfl, by decide +kernel, by decide +kernel⟩
/-! ### what a draw looks like -/
abbrev kW : Key := Sum.inr ("wide" : Str)
abbrev kC : Key := Sum.inr ("cells" : Str)
abbrev kR : Key := Sum.inr ("rest" : Str)
abbrev kT : Key := Sum.inr ("turn" : Str)
def dkv (wp cp : Addr) (r t : Int) : List (Key × V) := [(kW, .ref wp), (kC, .ref cp), (kR, .int r), (kT, .int t)]
structure DrawAt (H : Hp) (d wp cp : Addr) (ws cs : List Int) (r t : Int) : Prop where
  dc : H d = some (.dK (dkv wp cp r t))
  wl : H wp = some (.lst (ws.map V.int))
  cl : H cp = some (.lst (cs.map V.int))
  cb : ∀ c ∈ cs, 0 ≤ c ∧ c < 2147483629
  cn : cs.length ≤ 63
  wn : ws.length ≤ 63
  t0 : 0 ≤ t
  nwc : wp ≠ cp
/-- a draw with n turns left -/
def Dr (H : Hp) (d wp cp : Addr) (n : Nat) : Prop := ∃ (ws cs : List Int) (r t : Int), DrawAt H d wp cp ws cs r t ∧ t + n ≤ 1000000000
theorem kWC : ¬ kW = kC := by decide +kernel
theorem kWR : ¬ kW = kR := by decide +kernel
theorem kWT : ¬ kW = kT := by decide +kernel
theorem kCR : ¬ kC = kR := by decide +kernel
theorem kCT : ¬ kC = kT := by decide +kernel
theorem kRT : ¬ kR = kT := by decide +kernel
theorem v_wide (wp cp : Addr) (r t : Int) : valV (dkv wp cp r t) kW = some (.ref wp) := valV_pos (p := (kW, V.ref wp)) rfl
theorem v_cells (wp cp : Addr) (r t : Int) : valV (dkv wp cp r t) kC = some (.ref cp) :=
  (valV_neg (p := (kW, V.ref wp)) kWC).trans (valV_pos (p := (kC, V.ref cp)) rfl)
theorem v_rest (wp cp : Addr) (r t : Int) : valV (dkv wp cp r t) kR = some (.int r) :=
  (valV_neg (p := (kW, V.ref wp)) kWR).trans ((valV_neg (p := (kC, V.ref cp)) kCR).trans (valV_pos (p := (kR, V.int r)) rfl))
theorem v_turn (wp cp : Addr) (r t : Int) : valV (dkv wp cp r t) kT = some (.int t) :=
  (valV_neg (p := (kW, V.ref wp)) kWT).trans ((valV_neg (p := (kC, V.ref cp)) kCT).trans ((valV_neg (p := (kR, V.int r)) kRT).trans (valV_pos (p := (kT, V.int t)) rfl)))
theorem p_rest (wp cp : Addr) (r t r' : Int) : putK (dkv wp cp r t) kR (.int r') = dkv wp cp r' t := by
  unfold putK
  rw [valV_any, v_rest, if_pos (show (some (V.int r)).isSome = true from rfl)]
  unfold dkv
  rw [List.map_cons, List.map_cons, List.map_cons, List.map_cons, List.map_nil]
  rw [if_neg kWR, if_neg kCR, if_pos rfl, if_neg (fun e => kRT e.symm)]
theorem p_turn (wp cp : Addr) (r t t' : Int) : putK (dkv wp cp r t) kT (.int t') = dkv wp cp r t' := by
  unfold putK
  rw [valV_any, v_turn, if_pos (show (some (V.int t)).isSome = true from rfl)]
  unfold dkv
  rw [List.map_cons, List.map_cons, List.map_cons, List.map_cons, List.map_nil]
  rw [if_neg kWT, if_neg kCT, if_neg kRT, if_pos rfl]
/-- what stands but at d and at wp -/
def But (d wp : Addr) (H H' : Hp) : Prop := ∀ b o, H b = some o → b ≠ d → b ≠ wp → H' b = some o
section
variable {P : Program} {w : World} {K : PySem.W.Frag} {mg : Str → Option Value} {base : Heap}
/-! ### mixed -/
def spMixed : Sp := fun vs H Q _ => ∃ (d wp cp : Addr) (ws cs : List Int) (r t : Int), vs = [.ref d] ∧ DrawAt H d wp cp ws cs r t ∧ t < 1000000000 ∧
  ∀ (v : Int) (H' : Hp), DrawAt H' d wp cp ws cs r (t + 1) → But d d H H' → Q (.int v) H'
theorem ok_mixed {f : Addr} {fd : FuncData} (F : Fun K "_law_mixed" "_law_mixed" sMixed f fd) (mi : mg "int" = none) : FnOk P w K mg base CX0 1 f fd ["draw"] spMixed := by
  refine F.ok scM (fun vs H Q E h => ?_) (fun cdv A outer s H vs Q E hr h => ?_)
  · obtain ⟨d, wp, cp, ws, cs, r, t, rfl, _⟩ := h
    rfl
  · obtain ⟨d, wp, cp, ws, cs, r, t, rfl, D, tb, k⟩ := h
    have hu := hu_of hr
    refine ⟨_, pss_cons (ps_par (by rfl) scM.nd (i := 1) (j := 2) rfl rfl (by decide) rfl rfl (pa_cons (pe_op op_add (pe_dget hu (pv 0) pe_str (fun _ _ => rfl)) pe_int) (pa_cons pe_int pa_nil)) (by rfl))
      (pss_cons (ps_dput hu (pv 0) pe_str (pv 1) rfl)
      (pss_cons (ps_for PassesOwn.never rfl (pi_list (pe_lst (pa_cons pe_int (pa_cons pe_int (pa_cons pe_int (pa_cons pe_int pa_nil)))))) (pg_name (i := 3) scM.nd rfl (.inl rfl))
        (pss_cons (ps_set (i := 4) scM.nd rfl (.inl rfl) (pe_op op_add (pe_op op_mul pe_int (pv 1)) (pe_op op_fdiv (pv 3) pe_int)))
        (pss_cons (ps_for PassesOwn.never rfl (pi_list (pe_dget hu (pv 0) pe_str (fun _ _ => rfl))) (pg_name (i := 5) scM.nd rfl (.inl rfl))
          (pss_one (ps_set (i := 4) scM.nd rfl (.inl rfl) (pe_op op_mod (pe_callTy call_int1 (by rfl) mi (by decide +kernel) (pa_cons (pe_op op_add (pe_op op_add (pe_op op_mul (pv 4) pe_int) (pv 5)) (pv 1)) pa_nil)) (pv 3)))))
        (pss_one (ps_set (i := 2) scM.nd rfl (.inl rfl) (pe_op op_add (pe_op op_mul (pv 2) pe_int) (pe_op op_mod (pe_callTy call_int1 (by rfl) mi (by decide +kernel) (pa_cons (pe_op op_pow (pv 4) pe_int) pa_nil)) (pv 3))))))))
      (pss_one (ps_ret (pv 2))))), ?_⟩
    have gT : DGet H d (kV kT) (some (.int t)) := by
      have z := DGet.k (k := kT) D.dc
      rw [v_turn] at z
      exact z
    refine ⟨_, rfl, d, _, rfl, gT, _, _, rfl, rfl, _, _, rfl, ?_⟩
    have ncd : cp ≠ d := ne_of D.cl D.dc (by intro z; cases z)
    have nwd : wp ≠ d := ne_of D.wl D.dc (by intro z; cases z)
    have D1 : DrawAt (upd H d (.dK (dkv wp cp r (t + 1)))) d wp cp ws cs r (t + 1) :=
      ⟨upd_same, by rw [upd_ne nwd]; exact D.wl, by rw [upd_ne ncd]; exact D.cl, D.cb, D.cn, D.wn, by have := D.t0; omega, D.nwc⟩
    refine ⟨_, rfl, _, rfl, d, _, rfl, DPut.k (k := kT) D.dc (show 4 < sizeLine by decide), ?_⟩
    rw [p_turn]
    generalize hH1 : upd H d (.dK (dkv wp cp r (t + 1))) = H1 at D1
    have B1 : But d d H H1 := fun b o e n _ => by rw [← hH1, upd_ne n]; exact e
    refine ⟨by decide, fun l nl => ?_⟩
    have nld : d ≠ l := ne_of_none D1.dc nl
    have nlc : cp ≠ l := ne_of_none D1.cl nl
    have nlw : wp ≠ l := ne_of_none D1.wl nl
    generalize hH2 : upd H1 l _ = H2
    have hl2 : H2 l = some (.lst ([2147483647, 2147483629, 2147483587, 2147483579].map V.int)) := by rw [← hH2, upd_same] <;> rfl
    have D2 : DrawAt H2 d wp cp ws cs r (t + 1) := ⟨by rw [← hH2, upd_ne nld]; exact D1.dc, by rw [← hH2, upd_ne nlw]; exact D1.wl, by rw [← hH2, upd_ne nlc]; exact D1.cl, D.cb, D.cn, D.wn, D1.t0, D.nwc⟩
    have B2 : But d d H H2 := fun b o e n _ => by
      have z := B1 b o e n n
      rw [← hH2, upd_ne (ne_of_none z nl)]
      exact z
    have gC : DGet H2 d (kV kC) (some (.ref cp)) := by
      have z := DGet.k (k := kC) D2.dc
      rw [v_cells] at z
      exact z
    refine ⟨l, rfl, ⟨_, SqL.of hl2⟩, for_list (xs := [2147483647, 2147483629, 2147483587, 2147483579].map V.int)
      (fun i σ H' => H2 = H' ∧ ∃ (found : Int) (pr bl gr : Option V), σ = [some (.ref d), some (.int (t + 1)), some (.int found), pr, bl, gr]) ⟨rfl, 0, none, none, none, rfl⟩ (fun i σ H' _ h => ?_) (fun i x σ H' hx h => ?_) (fun σ H' h => ?_)⟩
    · rw [← h.1]
      exact SqL.of hl2
    · obtain ⟨rfl, found, pr, bl, gr, rfl⟩ := h
      obtain ⟨p, rfl, p0, p1⟩ : ∃ p : Int, x = .int p ∧ 0 < p ∧ p < 2147483648 := by
        obtain ⟨p, hp, rfl⟩ := List.mem_map.mp (List.mem_of_getElem? hx)
        refine ⟨p, rfl, ?_⟩
        simp only [List.mem_cons, List.not_mem_nil, or_false] at hp
        omega
      have t0 := D.t0
      -- blend
      refine ⟨_, rfl, _, _, rfl, rfl, .inl ⟨by decide, by decide⟩, _, rfl, _, _, rfl, rfl, ⟨by decide, by decide⟩, _, _, rfl, rfl, ?_⟩
      -- the inner loop
      refine ⟨_, rfl, d, _, rfl, gC, cp, rfl, ⟨_, SqL.of D2.cl⟩, for_list (xs := cs.map V.int)
        (fun j σ H' => H2 = H' ∧ ∃ (bl : Int) (gr : Option V), σ = [some (.ref d), some (.int (t + 1)), some (.int found), some (.int p), some (.int bl), gr] ∧ 0 ≤ bl ∧ bl < 1000000000000000) ⟨rfl, _, gr, rfl, by omega, by omega⟩ (fun j σ H' _ h => ?_) (fun j x σ H' hx h => ?_) (fun σ H' h => ?_)⟩
      · rw [← h.1]
        exact SqL.of D2.cl
      · obtain ⟨rfl, bl, gr, rfl, b0, b1⟩ := h
        obtain ⟨g, hg, rfl⟩ := List.mem_map.mp (List.mem_of_getElem? hx)
        have hgb := D.cb g hg
        refine ⟨_, rfl, _, _, rfl, rfl, .inl ⟨by omega, by omega⟩, _, rfl, _, _, rfl, rfl, _, rfl, _, _, rfl, rfl, .inl ⟨_, rfl, ?_⟩⟩
        refine ⟨_, rfl, _, _, rfl, rfl, p0, ?_⟩
        refine ⟨rfl, _, _, rfl, Int.emod_nonneg _ (by omega), ?_⟩
        have := Int.emod_lt_of_pos (bl * 69621 + g + (t + 1)) p0
        omega
      · obtain ⟨rfl, bl, gr, rfl, b0, b1⟩ := h
        refine ⟨_, rfl, _, _, rfl, rfl, .inr ⟨by decide, by decide⟩, _, rfl, _, _, rfl, rfl, ⟨by decide, by decide, by omega⟩, .inl ⟨_, rfl, _, rfl, _, _, rfl, rfl, p0, _, _, rfl, rfl, ?_⟩⟩
        exact ⟨rfl, _, _, _, _, rfl⟩
    · obtain ⟨rfl, found, pr, bl, gr, rfl⟩ := h
      exact ⟨_, rfl, k _ _ D2 B2⟩
theorem iteT' {A B : Prop} {c : Bool} (e : c = true) (h : A) : if c = true then A else B := by rw [if_pos e]; exact h
theorem iteF' {A B : Prop} {c : Bool} (e : c = false) (h : B) : if c = true then A else B := by rw [if_neg (by rw [e]; decide)]; exact h
theorem dp_ints {K : PySem.W.Frag} {H : Hp} : ∀ ns : List Int, DpAll K H (ns.map V.int) (ns.map PyData.int)
  | [] => .nil
  | x :: r => .cons (.int x) (dp_ints r)
theorem ints_lay : ∀ ns : List Int, PyData.canLayAll0 (ns.map PyData.int) = true
  | [] => by simp [PyData.canLayAll0]
  | z :: zs => by simp [PyData.canLayAll0, PyData.canLay0, ints_lay zs]
theorem ints_depth : ∀ ns : List Int, PyData.depthAll (ns.map PyData.int) = 0
  | [] => by simp [PyData.depthAll]
  | z :: zs => by simp [PyData.depthAll, PyData.depth, ints_depth zs]
theorem ints_shaped (ns : List Int) : SeqAt.shaped (.list (ns.map PyData.int)) = true := by
  have h2 : PyData.depth (.list (ns.map PyData.int)) ≤ 64 := by
    simp only [PyData.depth, ints_depth]
    omega
  show (PyData.canLay0 (.list (ns.map PyData.int)) && decide (PyData.depth (.list (ns.map PyData.int)) ≤ 64)) = true
  rw [Bool.and_eq_true]
  exact ⟨by simp only [PyData.canLay0]; exact ints_lay ns, decide_eq_true h2⟩
/-! ### take -/
def Stays (d wp : Addr) (H H' : Hp) : Prop := But d wp H H'
def spTake : Sp := fun vs H Q _ => ∃ (d wp cp : Addr) (n : Nat) (m : Int), vs = [.ref d, .int m] ∧ Dr H d wp cp (n + 1) ∧ 0 < m ∧ m < 1000000000 ∧
  ∀ (v : Int) (H' : Hp), 0 ≤ v → v < m → Dr H' d wp cp n → But d wp H H' → Q (.int v) H'
theorem ok_take {f g : Addr} {fd gd : FuncData} (F : Fun K "_law_take" "_law_take" sTake f fd) (mi : mg "int" = none)
    (G : FnOk P w K mg base CX0 1 g gd ["draw"] spMixed) (mgf : mg "_law_mixed" = some (.ref g)) (kp : PySem.W.keepIn K (.ref g) = true) (b : Binds K gd ["draw"] []) : FnOk P w K mg base CX0 2 f fd ["draw", "many"] spTake := by
  refine F.ok scT (fun vs H Q E h => ?_) (fun cdv A outer s H vs Q E hr h => ?_)
  · obtain ⟨d, wp, cp, n, m, rfl, _⟩ := h
    rfl
  · obtain ⟨d, wp, cp, n, m, rfl, ⟨ws, cs, r, t, D, tb⟩, m0, m1, k⟩ := h
    have hu := hu_of hr
    refine ⟨_, C8.pss_cut (ps_if (pt_cmpR op_eq (pe_dget hu (pv 0) pe_str (fun _ _ => rfl)) pe_int (nomark _))
        (pss_one (ps_dput hu (pv 0) pe_str (pe_ifExp (pt_cmpR (op_neD hr.units) (pe_dget hu (pv 0) pe_str (fun _ _ => rfl)) (pe_lst pa_nil) (nomark _))
          (pe_bm PySem.F.plainAttrs_list PySem.F.slot_list_pop PySem.F.type_list_pop mt_popAt (pe_dget hu (pv 0) pe_str (fun _ _ => rfl)) (pa_cons pe_int pa_nil))
          (pe_call G (hr.mono (by decide)) rfl mgf kp b .nil pass0 (pa_cons (pv 0) pa_nil))) rfl)) pss_nil)
      (pss_cons (ps_set (i := 2) scT.nd rfl (.inl rfl) (pe_op op_mod (pe_callTy call_int1 (by rfl) mi (by decide +kernel) (pa_cons (pe_dget hu (pv 0) pe_str (fun _ _ => rfl)) pa_nil)) (pv 1)))
      (pss_cons (ps_dput hu (pv 0) pe_str (pe_op op_fdiv (pe_dget hu (pv 0) pe_str (fun _ _ => rfl)) (pv 1)) rfl)
      (pss_one (ps_ret (pv 2))))), ?_⟩
    have gR : DGet H d (kV kR) (some (.int r)) := by
      have z := DGet.k (k := kR) D.dc
      rw [v_rest] at z
      exact z
    have gW : DGet H d (kV kW) (some (.ref wp)) := by
      have z := DGet.k (k := kW) D.dc
      rw [v_wide] at z
      exact z
    have nwd : wp ≠ d := ne_of D.wl D.dc (by intro z; cases z)
    have ncd : cp ≠ d := ne_of D.cl D.dc (by intro z; cases z)
    refine ⟨fun σ H' => σ = [some (.ref d), some (.int m), none] ∧ ∃ (ws1 : List Int) (r1 t1 : Int), DrawAt H' d wp cp ws1 cs r1 t1 ∧ t1 + (n : Int) ≤ 1000000000 ∧ But d wp H H', ?_, fun σ' H' hM => ?_⟩
    · refine ⟨_, rfl, d, _, rfl, gR, rfl, _, rfl, ?_⟩
      by_cases r0 : V.int r = V.int 0
      · refine iteT' (decide_eq_true r0) ?_
        refine ⟨_, rfl, d, _, rfl, gW, by decide, fun p np => ?_⟩
        have npd : d ≠ p := ne_of_none D.dc np
        have npw : wp ≠ p := ne_of_none D.wl np
        have npc : cp ≠ p := ne_of_none D.cl np
        generalize hH1 : upd H p (.lst []) = H1
        have hp1 : H1 p = some (.lst []) := by rw [← hH1, upd_same]
        have D1 : DrawAt H1 d wp cp ws cs r t := ⟨by rw [← hH1, upd_ne npd]; exact D.dc, by rw [← hH1, upd_ne npw]; exact D.wl, by rw [← hH1, upd_ne npc]; exact D.cl, D.cb, D.cn, D.wn, D.t0, D.nwc⟩
        have B1 : But d wp H H1 := fun b o e _ _ => by rw [← hH1, upd_ne (ne_of_none e np)]; exact e
        have gW1 : DGet H1 d (kV kW) (some (.ref wp)) := by
          have z := DGet.k (k := kW) D1.dc
          rw [v_wide] at z
          exact z
        refine ⟨_, _, .lst (SqL.of D1.wl) (dp_ints ws), .lst (SqL.of hp1) .nil, ints_shaped ws, (by decide +kernel), _, rfl, ?_⟩
        cases ws with
        | nil =>
          refine iteF' (by decide +kernel) ?_
          refine ⟨_, rfl, d, wp, cp, [], cs, r, t, rfl, D1, by omega, fun v H' D' B' => ?_⟩
          refine ⟨_, rfl, d, _, rfl, DPut.k (k := kR) D'.dc (show 4 < sizeLine by decide), ?_⟩
          rw [p_rest]
          refine ⟨rfl, [], v, t + 1, ⟨upd_same, by rw [upd_ne nwd]; exact D'.wl, by rw [upd_ne ncd]; exact D'.cl, D'.cb, D'.cn, D'.wn, D'.t0, D'.nwc⟩, by omega, fun b o e n1 n2 => ?_⟩
          rw [upd_ne n1]
          exact B' b o (B1 b o e n1 n2) n1 n1
        | cons w1 wr =>
          refine iteT' (by rw [List.map_cons]; simp [PyData.eqv, PyData.eqvAll]) ?_
          refine ⟨_, rfl, d, _, rfl, gW1, .inl ⟨rfl, _, SqL.of D1.wl⟩, wp, _, 0, 0, _, rfl, rfl, D1.wl, by decide, by decide, ?_, rfl, ?_⟩
          · rw [List.map_cons, List.length_cons]
            simp [seqIndex?]
          have D2 : DrawAt (upd H1 wp (.lst (wr.map V.int))) d wp cp wr cs r t :=
            ⟨by rw [upd_ne nwd.symm]; exact D1.dc, upd_same, by rw [upd_ne D.nwc.symm]; exact D1.cl, D.cb, D.cn, by have := D.wn; rw [List.length_cons] at this; omega, D.t0, D.nwc⟩
          refine ⟨_, rfl, d, _, rfl, DPut.k (k := kR) D2.dc (show 4 < sizeLine by decide), ?_⟩
          rw [p_rest]
          refine ⟨rfl, wr, w1, t, ⟨upd_same, by rw [upd_ne nwd]; exact D2.wl, by rw [upd_ne ncd]; exact D2.cl, D2.cb, D2.cn, D2.wn, D2.t0, D2.nwc⟩, by omega, fun b o e n1 n2 => ?_⟩
          rw [upd_ne n1, upd_ne n2]
          exact B1 b o e n1 n2
      · refine iteF' (decide_eq_false r0) ?_
        exact ⟨rfl, ws, r, t, D, by omega, fun _ _ e _ _ => e⟩
    · obtain ⟨rfl, ws1, r1, t1, D1, tb1, B1⟩ := hM
      have gR1 : DGet H' d (kV kR) (some (.int r1)) := by
        have z := DGet.k (k := kR) D1.dc
        rw [v_rest] at z
        exact z
      refine ⟨_, rfl, d, _, rfl, gR1, .inl ⟨_, rfl, _, rfl, _, _, rfl, rfl, m0, ?_⟩⟩
      refine ⟨_, rfl, d, _, rfl, gR1, _, rfl, _, _, rfl, rfl, ⟨m0, by omega⟩, _, rfl, d, _, rfl, DPut.k (k := kR) D1.dc (show 4 < sizeLine by decide), ?_⟩
      rw [p_rest]
      have nwd1 : wp ≠ d := nwd
      refine ⟨_, rfl, k _ _ (Int.emod_nonneg _ (by omega)) (Int.emod_lt_of_pos _ m0) ⟨ws1, cs, r1 / m, t1, ⟨upd_same, by rw [upd_ne nwd]; exact D1.wl, by rw [upd_ne ncd]; exact D1.cl, D1.cb, D1.cn, D1.wn, D1.t0, D1.nwc⟩, tb1⟩ fun b o e n1 n2 => ?_⟩
      rw [upd_ne n1]
      exact B1 b o e n1 n2
/-! ### pick -/
def spPick : Sp := fun vs H Q _ => ∃ (d wp cp a : Addr) (n : Nat) (xs : List V), vs = [.ref d, .ref a] ∧ Dr H d wp cp (n + 1) ∧ H a = some (.lst xs) ∧ a ≠ wp ∧ 0 < xs.length ∧ xs.length < 1000000 ∧
  ∀ (i : Nat) (y : V) (H' : Hp), xs[i]? = some y → Dr H' d wp cp n → But d wp H H' → Q y H'
theorem ok_pick {f g : Addr} {fd gd : FuncData} (F : Fun K "_law_pick" "_law_pick" sPick f fd) (ml : mg "len" = none)
    (G : FnOk P w K mg base CX0 2 g gd ["draw", "many"] spTake) (mgf : mg "_law_take" = some (.ref g)) (kp : PySem.W.keepIn K (.ref g) = true) (b : Binds K gd ["draw", "many"] []) : FnOk P w K mg base CX0 3 f fd ["draw", "some"] spPick := by
  refine F.ok scP (fun vs H Q E h => ?_) (fun cdv A outer s H vs Q E hr h => ?_)
  · obtain ⟨d, wp, cp, a, n, xs, rfl, _⟩ := h
    rfl
  · obtain ⟨d, wp, cp, a, n, xs, rfl, D, ha, nw, l0, l1, k⟩ := h
    refine ⟨_, pss_one (ps_ret (pe_ix ix_list (pv 1) (pe_call G (hr.mono (by decide)) rfl mgf kp b .nil pass0 (pa_cons (pv 0) (pa_cons (pe_callB call_len_seq (by rfl) ml PySem.boot_len (pa_cons (pv 1) pa_nil)) pa_nil))) (fun _ _ => rfl))), ?_⟩
    have nd : a ≠ d := by
      obtain ⟨ws, cs, r, t, D1, _⟩ := D
      exact ne_of ha D1.dc (by intro z; cases z)
    refine ⟨_, rfl, _, rfl, _, rfl, a, _, rfl, .inl (SqL.of ha), ?_⟩
    refine ⟨d, wp, cp, n, (xs.length : Int), rfl, D, by omega, by omega, fun v H' v0 v1 D' B' => ?_⟩
    have ha' := B' a _ ha nd nw
    have hlt : v.toNat < xs.length := by omega
    refine ⟨a, xs, v, _, rfl, rfl, SqL.of ha', ?_, k v.toNat _ _ (List.getElem?_eq_getElem hlt) D' B'⟩
    have e := atI_nat (List.getElem?_eq_getElem hlt)
    rw [Int.toNat_of_nonneg v0] at e
    exact e
/-! ### begun -/
theorem upd_upd_same {H : Hp} {a : Addr} {o o' : HO} : upd (upd H a o) a o' = upd H a o' := by
  funext b
  by_cases e : b = a
  · rw [e, upd_same, upd_same]
  · rw [upd_ne e, upd_ne e, upd_ne e]
def cellOf (g : Int) : Int := (if g < 0 then -g else g) % 2147483629
def wideOf (ns : List Int) : List Int := (ns.filter fun g => decide ((if g < 0 then -g else g) ≥ (10 : Int) ^ 18)).map fun g => (if g < 0 then -g else g) - (10 : Int) ^ 18
def spBegun (K : PySem.W.Frag) : Sp := fun vs H Q _ => ∃ (a : Addr) (ns : List Int), vs = [.ref a] ∧ SqL K H a (ns.map V.int) ∧ ns.length ≤ 63 ∧
  ∀ (d wp cp : Addr) (H' : Hp), H d = none → H wp = none → H cp = none → Dr H' d wp cp 999999999 → (∀ b o, H b = some o → H' b = some o) → Q (.ref d) H'
theorem ok_begun {f : Addr} {fd : FuncData} (F : Fun K "_law_begun" "_law_begun" sBegun f fd) (mi : mg "int" = none) (ma : mg "abs" = none) : FnOk P w K mg base CX0 1 f fd ["script"] (spBegun K) := by
  refine F.ok scB (fun vs H Q E h => ?_) (fun cdv A outer s H vs Q E hr h => ?_)
  · obtain ⟨a, ns, rfl, _⟩ := h
    rfl
  · obtain ⟨a, ns, rfl, hS, hn, k⟩ := h
    have hu := hu_of hr
    refine ⟨_, pss_cons (ps_setLc (i := 1) (own := [("grain", 2)]) (g := gName 2) (by rfl) scB.nd rfl rfl (sw_true rfl rfl rfl (by decide +kernel)) (pi_list (pv 0)) (blkOk_by (own := [("grain", 2)]) (N := ["script", "wide", "grain"]) (sc := defScope sBegun) (by decide +kernel))
          (fun _ _ _ _ _ => pg_name (i := 2) scB.nd rfl (Or.inl rfl)) (fun _ _ _ _ _ => pts_one (pt_cmpR op_ge (pe_callB call_abs (by rfl) ma (by decide +kernel) (pa_cons (pv 2) pa_nil)) (pe_op op_pow pe_int pe_int) (nomark _)))
          (fun _ _ _ _ _ => pe_op op_sub (pe_callB call_abs (by rfl) ma (by decide +kernel) (pa_cons (pv 2) pa_nil)) (pe_op op_pow pe_int pe_int)))
      (pss_one (ps_ret (pe_disp (pps_cons pe_str (pv 1) (pps_cons pe_str
        (pe_lc (own := [("grain", 2)]) (g := gName 2) (tt := tYes) (by rfl) scB.nd (pi_list (pv 0)) (blkOk_by (own := [("grain", 2)]) (N := ["script", "wide", "grain"]) (sc := defScope sBegun) (by decide +kernel))
          (fun _ _ _ _ _ => pg_name (i := 2) scB.nd rfl (Or.inl rfl)) (fun _ _ _ _ _ => pts_nil)
          (fun _ _ _ _ _ => pe_op op_mod (pe_callTy call_int1 (by rfl) mi (by decide +kernel) (pa_cons (pe_callB call_abs (by rfl) ma (by decide +kernel) (pa_cons (pv 2) pa_nil)) pa_nil)) pe_int))
        (pps_cons pe_str pe_int (pps_cons pe_str pe_int pps_nil)))) (by rfl) (by rfl) (fun z => by cases z) (by decide)))), ?_⟩
    refine ⟨_, rfl, a, rfl, ⟨_, hS⟩, fun D nD => ?_⟩
    have same1 : ∀ {o : HO}, Same H (upd H D o) := fun {o} b u e => by rw [upd_ne (ne_of_none e nD)]; exact e
    refine lc_list (K := K) (a := a) (xs := ns.map V.int) (fun i H' => ∃ acc : List Int, H' = upd H D (.lst (acc.map V.int)) ∧ acc.length ≤ i) ⟨[], rfl, Nat.le_refl _⟩ (fun i H' _ h => ?_) (fun i x H' hx h => ?_) (fun H' h => ?_)
    · obtain ⟨acc, rfl, _⟩ := h
      exact same1.seq hS
    · obtain ⟨acc, rfl, al⟩ := h
      obtain ⟨g, hg, rfl⟩ := List.mem_map.mp (List.mem_of_getElem? hx)
      have hi : i < (ns.map V.int).length := (List.getElem?_eq_some_iff.mp hx).1
      rw [List.length_map] at hi
      refine ⟨rfl, _, rfl, _, rfl, _, _, rfl, rfl, ⟨by decide, by decide, by decide⟩, _, _, rfl, rfl, _, rfl, ?_⟩
      by_cases c : (10 : Int) ^ (18 : Int).toNat ≤ (if g < 0 then -g else g)
      · refine iteT' (decide_eq_true c) ?_
        refine ⟨_, rfl, _, rfl, _, _, rfl, rfl, ⟨by decide, by decide, by decide⟩, _, _, rfl, rfl, _, upd_same, by rw [List.length_map, sizeLine_eq]; omega, acc ++ [(if g < 0 then -g else g) - (10 : Int) ^ (18 : Int).toNat], ?_, by rw [List.length_append]; show acc.length + 1 ≤ i + 1; omega⟩
        rw [upd_upd_same, List.map_append]
        rfl
      · refine iteF' (decide_eq_false c) ?_
        exact ⟨acc, rfl, by omega⟩
    · obtain ⟨acc, rfl, al⟩ := h
      rw [List.length_map] at al
      intro p np
      generalize hH1 : upd H D (.lst (acc.map V.int)) = H1 at np
      have hD1 : H1 D = some (.lst (acc.map V.int)) := by rw [← hH1, upd_same]
      have s1 : Same H H1 := by rw [← hH1]; exact same1
      have nDp : D ≠ p := ne_of_none hD1 np
      have s2 : Same H1 (upd H1 p (.dK [])) := fun b u e => by rw [upd_ne (ne_of_none e np)]; exact e
      have hp0 : H p = none := by
        cases e : H p with
        | none => rfl
        | some o => exact absurd (s1 p o e) (by rw [np]; intro z; cases z)
      have sq : SqL K (upd H1 p (.dK [])) a (ns.map V.int) := s2.seq (s1.seq hS)
      refine ⟨_, rfl, _, rfl, a, rfl, ⟨_, sq⟩, fun C nC => ?_⟩
      have nCp : p ≠ C := ne_of_none upd_same nC
      have nCD : D ≠ C := ne_of_none (s2 _ _ hD1) nC
      have s3 : ∀ {o : HO}, Same (upd H1 p (.dK [])) (upd (upd H1 p (.dK [])) C o) := fun {o} b u e => by rw [upd_ne (ne_of_none e nC)]; exact e
      have hC0 : H C = none := by
        cases e : H C with
        | none => rfl
        | some o => exact absurd (s2 _ _ (s1 C o e)) (by rw [nC]; intro z; cases z)
      refine lc_list (K := K) (a := a) (xs := ns.map V.int) (fun i H' => ∃ cs : List Int, H' = upd (upd H1 p (.dK [])) C (.lst (cs.map V.int)) ∧ cs.length ≤ i ∧ ∀ c ∈ cs, 0 ≤ c ∧ c < 2147483629) ⟨[], rfl, Nat.le_refl _, fun c h => nomatch h⟩ (fun i H' _ h => ?_) (fun i x H' hx h => ?_) (fun H' h => ?_)
      · obtain ⟨cs, rfl, _⟩ := h
        exact s3.seq sq
      · obtain ⟨cs, rfl, cl, cb⟩ := h
        obtain ⟨g, hg, rfl⟩ := List.mem_map.mp (List.mem_of_getElem? hx)
        have hi : i < (ns.map V.int).length := (List.getElem?_eq_some_iff.mp hx).1
        rw [List.length_map] at hi
        refine ⟨rfl, _, rfl, _, rfl, .inl ⟨_, rfl, _, _, rfl, rfl, (show (0 : Int) < 2147483629 by decide), _, upd_same, by rw [List.length_map, sizeLine_eq]; omega, cs ++ [(if g < 0 then -g else g) % 2147483629], ?_, by rw [List.length_append]; show cs.length + 1 ≤ i + 1; omega, fun c hc => ?_⟩⟩
        · rw [upd_upd_same, List.map_append]
          rfl
        · rcases List.mem_append.mp hc with hc | hc
          · exact cb c hc
          · rw [List.mem_singleton] at hc
            rw [hc]
            exact ⟨Int.emod_nonneg _ (by decide), Int.emod_lt_of_pos _ (by decide)⟩
      · obtain ⟨cs, rfl, cl, cb⟩ := h
        rw [List.length_map] at cl
        refine ⟨by rw [upd_ne nCp, upd_same], dkv D C 0 0, rfl, (show 4 ≤ 15 by decide), ?_⟩
        have em : mergeK [] (dkv D C 0 0) = dkv D C 0 0 := by
          show putK (putK (putK (putK ([] : List (Key × V)) kW (.ref D)) kC (.ref C)) kR (.int 0)) kT (.int 0) = _
          have e1 : putK ([] : List (Key × V)) kW (.ref D) = [(kW, .ref D)] := putK_new _ rfl
          rw [e1, putK_new (kvs := [(kW, V.ref D)]) (k := kC) _ ((valV_neg (p := (kW, V.ref D)) kWC).trans rfl)]
          rw [putK_new (kvs := [(kW, V.ref D)] ++ [(kC, V.ref C)]) (k := kR) _ ((valV_neg (p := (kW, V.ref D)) kWR).trans ((valV_neg (p := (kC, V.ref C)) kCR).trans rfl))]
          rw [putK_new (kvs := [(kW, V.ref D)] ++ [(kC, V.ref C)] ++ [(kR, V.int 0)]) (k := kT) _ ((valV_neg (p := (kW, V.ref D)) kWT).trans ((valV_neg (p := (kC, V.ref C)) kCT).trans ((valV_neg (p := (kR, V.int 0)) kRT).trans rfl)))]
          rfl
        rw [em]
        refine k p D C _ hp0 nD hC0 ⟨_, cs, 0, 0, ⟨upd_same, by rw [upd_ne nDp, upd_ne nCD, upd_ne nDp]; exact hD1, by rw [upd_ne nCp.symm, upd_same], cb, by omega, by omega, by decide, nCD⟩, by decide⟩ fun b o e => ?_
        rw [upd_ne (ne_of_none e hp0)]
        exact s3 b o (s2 b o (s1 b o e))
end
end Dw

namespace Nm
open PySem PySem.Spec PyProof.Rows L2
def keptS : List Str := (["answer", "ask", "call", "clause", "copy", "document", "draw", "false", "give", "house", "inner", "law", "never", "node", "outer", "program", "state", "true", "wait"] : List String).map Str.ofString
def keptV : List V := keptS.map V.str
end Nm
set_option Elab.async false
set_option linter.all false
set_option maxRecDepth 100000
set_option maxHeartbeats 0
/-! What the head is looked at for, the head's run. -/
namespace Kh
open PySem PySem.Spec PyProof.Rows L2 Dw Nm
def addrOf (K : PySem.W.Frag) (n : Str) : Addr := match PySem.W.nsIn K mainGlobals n with
  | some (some (.ref C)) => C
  | _ => 0
/-- a function's words -/
abbrev Fw : Type := Option (Str × Str × Arguments × FuncBody × Scope × Addr × List Str × Addr)
def fwOf (K : PySem.W.Frag) (f : Addr) : Fw := match K.lookup f with
  | some ⟨_, _, .func fd, _⟩ => some (fd.name, fd.qualname, fd.params, fd.body, fd.scope, fd.globals, fd.closure.map (·.1), fd.builtins)
  | _ => none
def fwVal (st : Stmt) (x qual : Str) (cl : List Str) : Fw := some (x, qual, defArgs st, .stmts (defBody st), defScope st, mainGlobals, cl, builtinsNs)
/-- the rest of what is wanted of a def of the top -/
def defB (K : PySem.W.Frag) (x : Str) : Bool := decide (PySem.W.nsIn K mainGlobals x = some (some (.ref (addrOf K x)))) && (PySem.W.keepIn K (.ref (addrOf K x)) && (match K.lookup (addrOf K x) with
  | some ⟨_, _, .func fd, _⟩ => PySem.W.codeIn K fd.code x && decide (fd.defaults = .none)
  | _ => false))
def codeOf (K : PySem.W.Frag) (x : Str) : Addr := match K.lookup (addrOf K x) with
  | some ⟨_, _, .func fd, _⟩ => (match fd.code with
    | .ref c => c
    | _ => 0)
  | _ => 0
def tabOf (K : PySem.W.Frag) (x : Str) : Addr := match K.lookup (codeOf K x) with
  | some ⟨_, _, .fields vs, _⟩ => (match (vs[11]? : Option Value) with
    | some (.ref P) => P
    | _ => 0)
  | _ => 0
/-- a code object whose table is empty -/
def tabB (K : PySem.W.Frag) (g : Addr → Option Obj) (x : Str) : Bool := (match K.lookup (addrOf K x) with
  | some ⟨_, _, .func fd, _⟩ => decide (fd.code = .ref (codeOf K x))
  | _ => false) && ((match K.lookup (codeOf K x) with
  | some ⟨.type "code", _, .fields vs, _⟩ => decide (vs[11]? = some (Value.ref (tabOf K x))) && (decide (vs.getD 11 .none = .ref (tabOf K x)) && ((match vs.getD 18 .none with
    | .str _ _ => true
    | _ => false) && ((match vs.getD 7 .none with
    | .int _ _ => true
    | _ => false) && ((match vs.getD 9 .none with
    | .bool _ => true
    | _ => false) && ((match vs.getD 10 .none with
    | .int _ _ => true
    | _ => false) && decide (codeOf K x ≠ tabOf K x))))))
  | _ => false) && ((match g (tabOf K x) with
  | some ⟨.none, none, .fields vs, sl⟩ => vs.isEmpty && sl.isEmpty
  | _ => false) && (K.lookup (tabOf K x)).isNone))
def keptB (K : PySem.W.Frag) : Bool := decide (PySem.W.nsIn K mainGlobals "KEPT" = some (some (.ref (addrOf K "KEPT")))) && (match K.lookup (addrOf K "KEPT") with
  | some ⟨.type "tuple", _, .seq us _, _⟩ => decide (us.toList.map (fun v => match v with
    | .str s _ => some s
    | _ => none) = keptS.map some)
  | _ => false)
/-- an error class without an init of its own, below PageError -/
def veMro : List Value := [.type "ValueError", .type "Exception", .type "BaseException", .type "object"]
def clsB (K : PySem.W.Frag) (x : Str) : Bool :=
  let C := addrOf K x
  decide (PySem.W.nsIn K mainGlobals x = some (some (.ref C))) && (decide (PySem.W.exmOne K (.ref C) (.ref (addrOf K "PageError")) = some true) && (decide (PySem.W.kitOne K (.ref C) (.ref C) = some true) && (PySem.W.excIn K C veMro "ValueError.__new__" && (PySem.W.keepIn K (.ref C) &&
  (decide (PySem.W.typeIn K (.ref C) = some (.type "type")) &&
  (decide (PySem.W.findIn K (.ref C) "__getattribute__" = some (some (.builtin "BaseException.__getattribute__"))) && (decide (PySem.W.findIn K (.ref C) "__getattr__" = some none) && (decide (PySem.W.subIn K (.ref C) (.type "BaseException") = some true) && (decide (PySem.W.hasDictIn K C = true) &&
  (decide (PySem.W.findIn K (.ref C) "__class__" = some (some (.builtin "object.__class__"))) && (decide (PySem.W.specialIn K (.builtin "object.__class__") "__get__" = some (some (.builtin "getset_descriptor.__get__"))) && (decide (PySem.W.takesIn K (.builtin "object.__class__") = some true) && decide (PySem.W.mroIn K C (.type "object") = some true)))))))))))))
def badB (K : PySem.W.Frag) : Bool := decide (PySem.W.nsIn K mainGlobals "PageError" = some (some (.ref (addrOf K "PageError")))) && (clsB K "BadProgram" && clsB K "BadWord")
def freeL : List Str := ["isinstance", "int", "bool", "tuple", "len", "str", "all", "set", "zip", "enumerate", "range", "list", "abs", "min", "repr"]
def freeB (K : PySem.W.Frag) : Bool := freeL.all fun x => decide (PySem.W.nsIn K mainGlobals x = some none)
def tabL : List Str := ["is_name", "are_names", "call_names", "answer_names", "is_house", "is_word", "is_state_row", "is_program", "answers", "history"]
def farB (K : PySem.W.Frag) : Bool := tabL.all fun x => tabOf K "law" != tabOf K x
def defL0 : List (Nat × Str) := [(6, "is_number"), (7, "is_index"), (8, "is_tuple_of"), (9, "is_told"), (10, "is_string_among"), (13, "is_name"), (15, "are_names"), (16, "is_call"), (17, "is_house"), (18, "call_names"), (19, "answer_names"), (20, "is_word")]
def defL1 : List (Nat × Str) := [(22, "is_program"), (23, "is_state_row"), (24, "is_entry"), (25, "need_program_and_word"), (26, "entries_of"), (27, "answers"), (28, "history"), (29, "state_behind"), (31, "_law_begun"), (32, "_law_mixed"), (33, "_law_take"), (34, "_law_pick")]
def defL2 : List (Nat × Str) := [(35, "_law_shuffled"), (36, "_law_names"), (37, "_law_house"), (38, "_law_calls"), (39, "_law_word"), (40, "_law_program"), (41, "_law_answered"), (42, "_law_places"), (43, "_law_part_at"), (44, "_law_put_at"), (45, "_law_odd"), (46, "_law_bent")]
def defL3 : List (Nat × Str) := [(47, "_law_all_names"), (48, "_law_is_name"), (49, "_law_are_names"), (50, "_law_has_head"), (51, "_law_is_house"), (52, "_law_is_whole"), (53, "_law_is_program"), (54, "_law_state"), (55, "_law_error"), (56, "_law_bad_word"), (57, "_law_long_right"), (58, "law")]
def defL : List (Nat × Str) := defL0 ++ (defL1 ++ (defL2 ++ (defL3)))
abbrev Ob : Type := (Bool × Bool × Bool × Bool × Bool × Bool) × List Fw
def obsK (K : PySem.W.Frag) (g : Addr → Option Obj) : Ob := ((defL.all fun d => defB K d.2, tabL.all fun x => tabB K g x, tabB K g "law", farB K, keptB K, badB K && freeB K), defL.map fun d => fwOf K (addrOf K d.2))
def valK : Ob := ((true, true, true, true, true, true), defL.map fun d => fwVal (topS d.1) d.2 d.2 [])
def as0 (g : Addr → Option Obj) : List Addr := cStatics :: He.asD g 4
def asK (g : Addr → Option Obj) : List Addr := (as0 g).filter fun a => (a != tabOf (He.frG g (as0 g)) "law") && tabL.all fun x => a != tabOf (He.frG g (as0 g)) x
def getT (g : Addr → Option Obj) (K : PySem.W.Frag) : Addr → Option Obj := g
def hk : PySem.W.Hook where
  α := Ob
  obs := fun s => obsK (He.frG s.heap.get? (asK s.heap.get?)) s.heap.get?
  val := fun _ => valK
  says := fun _ h => ∃ (K : PySem.W.Frag) (g : Addr → Option Obj), K.In h ∧ (∀ b o, g b = some o → h.get? b = some o) ∧ obsK K g = valK
  of := fun _ s e => ⟨_, s.heap.get?, He.frG_in, fun _ _ z => z, e⟩
  keeps := fun _ _ _ ⟨K, g, hK, hg, c⟩ k => ⟨K, g, PySem.W.Frag.In.keeps hK k, fun b o z => k b o (hg b o z), c⟩
def ob (s : PySem.W.SharedT) : Ob := obsK (He.frG (HandSHeadRun.getT s) (asK (HandSHeadRun.getT s))) (HandSHeadRun.getT s)
theorem ob_eq (s : PySem.W.SharedT) : ob s = hk.obs s.abs := by
  have e : HandSHeadRun.getT s = s.abs.heap.get? := funext (HandSHeadRun.getT_eq s)
  show obsK (He.frG (HandSHeadRun.getT s) (asK (HandSHeadRun.getT s))) (HandSHeadRun.getT s) = obsK (He.frG s.abs.heap.get? (asK s.abs.heap.get?)) s.abs.heap.get?
  rw [e]
abbrev R : PySem.W.OpenRow := PySem.W.OpenLaw.row PySem.Challenge.rw_saidandasked_k19_programs_answer_words
def looseK0 : List Str := ["PageError", "BadHouse", "BadProgram", "BadWord", "is_number", "is_index", "is_tuple_of", "is_told", "is_string_among", "KEPT", "is_name", "are_names"]
def looseK1 : List Str := ["is_call", "is_house", "call_names", "answer_names", "is_word", "is_program", "is_state_row", "is_entry", "need_program_and_word", "entries_of", "answers", "history"]
def looseK2 : List Str := ["state_behind", "_law_begun", "_law_mixed", "_law_take", "_law_pick", "_law_shuffled", "_law_names", "_law_house", "_law_calls", "_law_word", "_law_program", "_law_answered"]
def looseK3 : List Str := ["_law_places", "_law_part_at", "_law_put_at", "_law_odd", "_law_bent", "_law_all_names", "_law_is_name", "_law_are_names", "_law_has_head", "_law_is_house", "_law_is_whole", "_law_is_program"]
def looseK4 : List Str := ["_law_state", "_law_error", "_law_bad_word", "_law_long_right"]
def looseK : List Str := looseK0 ++ (looseK1 ++ (looseK2 ++ (looseK3 ++ (looseK4))))
theorem run (w : World) : HandSHeadRun.RunEq R (PySem.W.view R.prog [58]) hk ob 8000 looseK w := by
  intro os
  kernel_rfl
end Kh

set_option Elab.async false
set_option linter.all false
set_option maxRecDepth 100000
set_option maxHeartbeats 2000000
/-! super().__init__(text) of an own error class, over the hand layer. -/
namespace Sx
open PySem PySem.Spec PyProof.Rows L2
section
variable {prog : Program} {w : World} {A : Around} {E : Value → Shared → Prop} {h : Heap} {g : Array GenState} {d : Drawn} {t : Nat} {os : OsState}
variable {nm q : Str} {C N : Addr} {bs bm : List Value} {hdct : Bool} {sn : List Str} {sub : List Value} {ab : Bool} {col : Option Bool} {dd : Option Addr} {k0 k1 k2 k3 k5 : Option Value}
/-- the bound ValueError.__init__ is called -/
theorem call_mw {u e t0 : Addr} {us : List Value} {Q : Value → Shared → Prop} (hC : h.get? C = some (excClassObj nm q C N bs bm hdct sn sub ab col dd k0 k1 k2 k3 k5 "ValueError.__new__"))
    (he : h.get? e = some (PySem.HandSPX.excO C t0)) (hu : h.get? u = some (PySem.W.kxs_mw "ValueError.__init__" e)) (hz : us.length ≤ sizeLine)
    (hq : ∀ h' t1, (∀ b o, b ≠ e → h.get? b = some o → h'.get? b = some o) → h'.get? e = some (PySem.HandSPX.excO C t1) → Q .none ⟨h', g, d, t, os⟩) :
    wpAny (model prog w) A (call (.ref u) us) Q E ⟨h, g, d, t, os⟩ := by
  refine wpAny_call (codeAny_of_tree ?_); show wpAny _ A.in1 (callAny (.ref u) ⟨us, []⟩) _ _ _; simp only [callAny]
  refine wpAny_bind (wpAny_load hu ?_); simp only [PySem.W.kxs_mw, show (Value.type "method-wrapper" == Value.type "method" || Value.type "method-wrapper" == Value.type "builtin_function_or_method" || Value.type "method-wrapper" == Value.type "method-wrapper") = true by decide, if_true]
  refine PySem.W.KFB.if_so (by decide) (wpAny_bind (PySem.W.check_bound_init F.excBase_ValueError.toExcCallFacts hC he rfl ?_))
  refine wpAny_bind (wpAny_pure (wpAny_pure ⟨PySem.plainId_quiet F.excBase_ValueError.init.plain _, codeAny_builtin F.excBase_ValueError.initEntry ?_⟩))
  exact PySem.W.exc_init_tree (cls := .ref C) (t0 := t0) (dv := none) (c2 := .none) (c3 := .none) (b4 := .bool false) he hz fun h' k e1 _ => hq h' _ k e1
end
section
variable {X : Cx} {pins : List (Addr × Obj)} {σ : L2.St} {H : Hp} {s : Shared} {a C D f cc cda : Addr} {oc : Value} {od : Option Addr} {fd : FuncData} {osl : Array (Option Value)} {ar : Arg} {vs : Array Value} {file : Str} {tf : Tok} {ccl cl : Value} {cdd cld : Option Addr} {ccs csl : Array (Option Value)} {cdD : ClassData}
theorem super_init {body : List Stmt} {p0 p1 p2 pos pos' cp : Pos} {j : Nat} {x : Str} {pl : Sem Bool} (I : Inv X pins σ H s)
    (hks : X.env.scope.names.lookup ("super" : Str) = some .globalImplicit) (hkc : X.env.scope.names.lookup ("__class__" : Str) = some .free) (hcells : X.env.cells.lookup ("__class__" : Str) = some cc)
    (hfu : X.env.func = some f) (hf : X.K.lookup f = some ⟨oc, od, .func fd, osl⟩) (hp : (fd.params.posonlyargs ++ fd.params.args).head? = some ar)
    (hka : X.env.scope.names.lookup ar.arg = some .local) (hN : X.N[0]? = some ar.arg) (hσ : σ[0]? = some (some (.ref a)))
    (hco : X.env.code = .ref cda) (hcode : X.K.lookup cda = some ⟨ccl, cdd, .fields vs, ccs⟩) (hvs : vs[2]? = some (.str file tf)) (hfile : ((X.prog.main.file : Str) == file) = true)
    (htop : (X.prog.main.scope.names.lookup ("super" : Str)).isSome = false) (hcell : X.K.lookup cc = some ⟨cl, cld, .cell (some (.ref D)), csl⟩) (hD : PySem.W.clsIn X.K D = some cdD)
    (hsub : PySem.W.mroIn X.K C (.ref D) = some true) (hsuper : X.mg "super" = none) (hopq : PySem.W.nsIn X.K cStatics "thirdparty.any" = some none)
    (hm : PySem.W.ks_superIn X.K C D "__init__" = some (some (.builtin "ValueError.__init__"))) (hB : PySem.W.subIn X.K (.ref C) (.type "ValueError") = some true)
    (T : OexC X.K C) (ea : H a = some (exo a C none)) (hint : interactive X.env = false)
    (hsw : swapsWith (.Call (.Attribute (.Call (.Name "super" p0) [] [] p1) "__init__" p2) [.Constant (.str x) j cp] [] pos) none pos'.line X.env = pure false)
    (he : starEach [.Constant (.str x) j cp] X.env = (false, eval (.Constant (.str x) j cp) X.env) :: starEach [] X.env)
    (hev : eval (.Call (.Attribute (.Call (.Name "super" p0) [] [] p1) "__init__" p2) [.Constant (.str x) j cp] [] pos) X.env = (do
      let ov ← attributeBase (.Call (.Name "super" p0) [] [] p1) "__init__" X.env (eval (.Call (.Name "super" p0) [] [] p1) X.env)
      standAt p2.atName; let (f, first) ← holding [ov] (getMethod ov "__init__" pl); callWith pos f first (backTo pos (starEach [.Constant (.str x) j cp] X.env)) [])) :
    PySem.wpAt (model X.prog X.w) X.A (.func body X.env) (exec (.Expr (.Call (.Attribute (.Call (.Name "super" p0) [] [] p1) "__init__" p2) [.Constant (.str x) j cp] [] pos) pos') X.env) (fun fl s' => fl = .next ∧ Inv X pins σ H s') X.xe s := by
  refine ks_wpAt_Expr_any (ks_wpAt_MethodCall ?_ hev) hint hsw
  refine ks_wpAt_super_base hks hkc rfl hfu (I.kIn _ _ hf) rfl hp hco (I.kIn _ _ hcode) rfl hvs hfile htop ?_
  obtain ⟨mb, hb1, hb2⟩ := I.mod.blt
  refine PySem.W.ks_loadName_global I.ok.kind hks (Calls.loadGlobal_builtin (by rw [I.ok.glob]; exact I.mod.glob.keeps I.bk) hsuper (by rw [I.ok.blt]; exact hb1.keeps I.bk) ((hb2 _ (by decide +kernel)).trans PyProof.Rows.Boot.«super») ⟨rfl, ?_⟩)
  refine wpAny_loadName_free I.ok.kind hkc hcells ⟨_, I.kIn _ _ hcell, rfl⟩ ?_
  obtain ⟨m, hns, hl⟩ := id I.loc
  obtain ⟨u, ru, lu⟩ := hl 0 _ _ hN hσ (.inl hka)
  obtain rfl : u = Value.ref a := ru
  have lv : m ar.arg = some (.ref a) := by
    rcases lu with ⟨_, z⟩ | ⟨z, _⟩
    · exact z
    · have k : X.env.kindOf ar.arg = some .local := hka
      rw [k] at z
      rcases z with z | z <;> cases z
  refine wpAny_loadName_local I.ok.kind hka hns lv ?_
  obtain ⟨t1, ho⟩ := exo_at I.hok ea
  obtain ⟨hp', g, d, t, os⟩ := s
  obtain ⟨oD, hD1, hD2⟩ : ∃ oD, hp'.get? D = some oD ∧ oD.data = .cls cdD := by
    unfold PySem.W.clsIn at hD
    split at hD
    · rename_i ho'
      cases hD
      exact ⟨_, I.kIn _ _ ho', rfl⟩
    · cases hD
  refine ks_wpAny_isType_cls hD1 hD2 ⟨rfl, ?_⟩
  refine ks_wpAny_call_super hD1 hD2 ho rfl (fun c e => by cases e) (PySem.W.looks_mroIn I.kIn hsub) (fun h1 e1 k1 => ?_)
  obtain ⟨nm, q, N, bs, bm, sn, sub, ab, col, dd, k0, k1', k2, k3, k5, hC, hbm⟩ := T.cls
  have KX := I.kIn
  have KX1 : X.K.In h1 := KX.keeps k1
  have IA : PySem.W.InstAt hp' a { cls := .ref C, dict := none, data := .fields #[.ref t1, .none, .none, .none, .bool false, .none] } C none := ⟨ho, rfl, rfl, trivial⟩
  have IA1 : PySem.W.InstAt h1 a { cls := .ref C, dict := none, data := .fields #[.ref t1, .none, .none, .none, .bool false, .none] } C none := ⟨k1 _ _ ho, rfl, rfl, trivial⟩
  cases hc : PySem.W.clsIn X.K C with
  | none => unfold PySem.W.ks_superIn at hm; rw [hc] at hm; cases hm
  | some cd =>
    unfold PySem.W.ks_superIn at hm
    rw [hc] at hm
    refine PySem.W.kxs_getMethod PySem.W.kxs_ValueError e1 (PySem.W.looks_opaque KX1 hopq) (l₀ := cd.mro) (fun A Q E s k q => wpAny_bind ((PySem.W.looks_clsIn KX1 hc) A _ E s k (wpAny_pure q))) rfl KX1 hm
      (IA1.type.andThen (PySem.W.looks_subIn KX1 hB)) (PySem.W.ks_ne KX1 IA1 hc) (by decide) ?_
    generalize hh2 : h1.push (PySem.W.kxs_mw "ValueError.__init__" a) = h2
    have k2' : ∀ b o, hp'.get? b = some o → h2.get? b = some o := fun b o e => by rw [← hh2]; exact Heap.get?_push_of_some _ (k1 b o e)
    have KX1' : X.K.In h2 := KX.keeps k2'
    have hu2 : h2.get? h1.objs.size = some (PySem.W.kxs_mw "ValueError.__init__" a) := by rw [← hh2]; exact Heap.get?_push_at rfl rfl
    have I2 : Inv X pins σ H ⟨h2, g, d, t + 1, os⟩ := I.kept (t' := t + 1) k2'
    rw [he]
    refine PySem.W.kxs_callWith (i := "ValueError.__init__") (x := a) (by rfl) (Calls.evalArgs_plain ?_)
    refine Calls.spliced_cons (wpAny_Constant_str (k := j) (pos := cp) (Calls.spliced_nil ⟨hu2, ?_⟩))
    refine call_mw (KX1' _ _ hC) (k2' _ _ ho) hu2 (by show 1 ≤ sizeLine; rw [sizeLine_eq]; omega) fun h3 t3 k3 hx => ⟨rfl, ?_⟩
    have J := I2.write (t' := t + 1 + 1) (x := a) (e := a) (o := exo a C none) (by rw [ea]; exact True.intro) (.inl rfl) k3 ⟨_, hx⟩ (exo_ok hx)
    have eu : upd H a (exo a C none) = H := funext fun b => by
      by_cases hb : b = a
      · rw [hb, upd_same, ea]
      · exact upd_ne hb
    rw [eu] at J
    exact J
end
section
open NdefX
variable {CX : CXT} {P : Program} {w : World} {K : PySem.W.Frag} {mg : Str → Option Value} {base : Heap} {N ps fr : List Str} {ws : List (Option V)} {F : NF} {f : Addr} {k : Nat} {sp : Sp} {st : Stmt} {rest : List Stmt} {oc doc pm ctv : Value} {od : Option Addr} {osl : Array (Option Value)}
/-- a written def that captures cells, its first statement known by its activation, the others by the layer -/
theorem fn_first (hb0 : F.body = st :: rest) (lk : K.lookup f = some ⟨oc, od, .func (F.fd doc pm ctv), osl⟩) (hcd : PySem.W.codeIn K (.ref F.c) F.qual = true) (S : NScope N ps fr F.scope)
    (C : ∀ (A : Around) (outer : List Env) (s : Shared) (H : Hp), Env0 P w K mg base A outer s H → CellsAt F.cl fr ws s.heap H) (len : ∀ vs H Q E, sp vs H Q E → vs.length = ps.length)
    (h1 : ∀ (A : Around) (outer : List Env) (s : Shared) (H : Hp) (vs : List V) (Q : VK) (E : XK), Room k (A.deeper (envF F f s.heap.objs.size)) → sp vs H Q E → ∀ s1, Inv (ncx CX P w K mg base N F f A outer s H E) [] (startF N vs ws) H s1 →
      PySem.wpAt (model P w) (A.deeper (envF F f s.heap.objs.size)) (.func F.body (envF F f s.heap.objs.size)) (exec st (envF F f s.heap.objs.size)) (fun fl s' => fl = .next ∧ Inv (ncx CX P w K mg base N F f A outer s H E) [] (startF N vs ws) H s') (ncx CX P w K mg base N F f A outer s H E).xe s1)
    (h2 : ∀ (A : Around) (outer : List Env) (s : Shared) (H : Hp) (vs : List V) (Q : VK) (E : XK), Room k (A.deeper (envF F f s.heap.objs.size)) → sp vs H Q E →
      ∃ t, PSs (ncx CX P w K mg base N F f A outer s H E) rest t ∧ t { nx := fun _ H' => Q .non H', rt := Q } (startF N vs ws) H) :
    FnOk P w K mg base CX (k + 1) f (F.fd doc pm ctv) ps sp := by
  refine ⟨len, fun A outer s H args us vs Q E hr e0 hb r hsp => ?_⟩
  have hl := len _ _ _ _ hsp
  have KX : K.In s.heap := e0.mod.kin.keeps fun b o e => (e0.bs b o e).1
  have lim : s.heap.NoLimit := e0.mod.nolimit.keeps fun b o e => (e0.bs b o e).1
  refine codeAny_call_function hr.depth (KX _ _ lk) rfl S.co S.gen rfl (PySem.W.codeRec_of KX hcd) (hb _ _ _ _ ?_)
  refine wpAny_newFunctionEnv S.nocell (fun ⟨n, _⟩ hy => S.par n (List.of_mem_zip hy).1) (fun h₁ hns hsb => ⟨lim.fresh _ hsb, ks_codeAny_funcAt ?_⟩) S.kind
  have kp : ∀ b o, s.heap.get? b = some o → h₁.get? b = some o := fun b o e => hsb.extBut b o (Nat.ne_of_lt (Heap.lt_size e)) (Heap.get?_push_of_some _ e)
  have I := inv_startN (CX := CX) (N := N) (F := F) (f := f) (E := E) (tk := s.toks + (ps.zip us).length) S hr.hd e0 hl r (C A outer s H e0) hns kp
  have q1 := h1 A outer s H vs Q E (hr.deeper _) hsp _ I
  obtain ⟨t, ht, hq⟩ := h2 A outer s H vs Q E (hr.deeper _) hsp
  show PySem.wpAt _ _ _ (execs F.body (envF F f s.heap.objs.size)) _ _ _
  rw [show execs F.body (envF F f s.heap.objs.size) = execs (st :: rest) (envF F f s.heap.objs.size) from by rw [hb0]]
  refine ks_wpAt_execs_cons (PySem.wpAt_mono q1 (fun fl s2 hfl => ?_) fun e s2 z => z)
  obtain ⟨rfl, J⟩ := hfl
  refine PySem.wpAt_of_wpAny (wpAny_mono (ht.run [] s2 (startF N vs ws) H _ J hq) (fun fl s' hs => ?_) fun e s' hs => hs)
  have fin : ∀ {σ' : L2.St} {H' : Hp} {v : V} {u : Value}, Inv (ncx CX P w K mg base N F f A outer s H E) [] σ' H' s' → L2.RelV v u → Q v H' → CE outer P w H s Q u s' := fun J r q => ⟨_, _, J.os, J.bare, J.base, J.hok, r, q⟩
  cases fl with
  | ret u => exact let ⟨_, _, _, J, r, q⟩ := hs; fin J r q
  | next => exact let ⟨_, _, J, q⟩ := hs; fin (v := V.non) (u := Value.none) J rfl q
  | brk => exact let ⟨_, _, _, q⟩ := hs; q.elim
  | cont => exact let ⟨_, _, _, q⟩ := hs; q.elim
end
section
variable {X : Cx} {e : Expr} {es : List Expr} {ta : TA} {p pos : Pos}
/-- C(e, ..) as a value, C an own error class with an __init__ of its own: the new error stays known -/
theorem pe_err {CX : CXT} {x : Str} {C fI : Addr} {k : Nat} {fd : FuncData} {ps : List Str} {sp : Sp} (T : OexC X.K C) (iC : PySem.W.findIn X.K (.ref C) "__init__" = some (some (.ref fI))) (tI : PySem.W.typeIn X.K (.ref fI) = some (.type "function"))
    (F1 : FnOk X.prog X.w X.K X.mg X.base CX k fI fd ps sp) (hr : Room (k + 1) X.A) (hb : Binds X.K fd ps []) (hx : Passes CX X E0) (hg : Gl X x) (hm : X.mg x = some (.ref C)) (ha : PA X (e :: es) ta)
    (hdb : (x == ("__debug__" : Str)) = false := by decide) (he : starEach (e :: es) X.env = (false, eval e X.env) :: starEach es X.env := by rfl) (hpl : (backTo pos (starEach es X.env)).any (·.1) = false := by rfl) :
    PE X (.Call (.Name x p) (e :: es) [] pos) (fun σ H Q => ta σ H fun vs H1 => vs.length ≤ 1000 ∧ ∀ a, H1 a = none → sp (.ref a :: vs) (upd H1 a (exo a C none)) (fun v H2 => v = .non ∧ Q (.ref a) H2) E0) := by
  refine ⟨fun pins s σ H Q I h => ?_⟩
  obtain ⟨nm, q, N, bs, bm, sn, sub, ab, col, dd, k0, k1, k2, k3, k5, hC, hbm⟩ := T.cls
  refine wpAny_Call_Name_kw (ld_glob I hg hm (PySem.W.callWith_K (h₀ := X.base) I.ok.mod.kin T.kC (thn (ha.run pos pins s σ H _ I h) fun us s1 ⟨vs, H1, I1, r1, hz, q1⟩ => ⟨I1.kIn, ?_⟩) he hpl) hdb)
  show wpAny _ _ (call (.ref C) us) _ _ _
  obtain ⟨hp, g, dr, tk, os⟩ := s1
  have hn : H1 (hp.objs.size + 1) = none := I1.hok.fresh (Nat.le_succ _)
  have hq := q1 _ hn
  have hget : ((hp.push (PySem.W.kdv_tup us)).push (PySem.HandSPX.excO C hp.objs.size)).get? (hp.objs.size + 1) = some (PySem.HandSPX.excO C hp.objs.size) := by heap_get
  have I2 : Inv X pins σ (upd H1 (hp.objs.size + 1) (exo (hp.objs.size + 1) C none)) ⟨(hp.push (PySem.W.kdv_tup us)).push (PySem.HandSPX.excO C hp.objs.size), g, dr, tk, os⟩ :=
    I1.laid (t' := tk) (a := hp.objs.size + 1) (o := exo (hp.objs.size + 1) C none) (fun b o e => Heap.get?_push_of_some _ (Heap.get?_push_of_some _ e)) (Nat.le_succ _) (exo_ok hget)
  have r2 : Vals (V.ref (hp.objs.size + 1) :: vs) (Value.ref (hp.objs.size + 1) :: us) := .cons rfl r1
  have hl : (Value.ref (hp.objs.size + 1) :: us ++ []).length = ps.length := by rw [List.append_nil, ← r2.length]; exact F1.len _ _ _ _ hq
  have hus : us.length ≤ sizeLine := by rw [← Paired.length r1, sizeLine_eq]; omega
  refine wpAny_call (PySem.HandSPX.call_own F.excBase_ValueError (fun Y => PySem.HandSPX.refsVE_contains Y bm hbm) (I1.kIn _ _ hC) (PySem.W.looks_findIn I1.kIn iC) (fun self => PySem.W.bind_fn I1.kIn self tI) hus
    (codeAny_mono (F1.run _ X.stack _ _ ⟨Value.ref (hp.objs.size + 1) :: us, []⟩ (Value.ref (hp.objs.size + 1) :: us) _ _ E0 (hr.make C us []) (I2.env0.make C us []) (by have z := hb _ (Value.ref (hp.objs.size + 1) :: us) I2.kIn hl; rw [List.append_nil] at z; exact z) r2 hq) fun r s' hq' => ?_))
  cases r with
  | error er => exact hx pins σ _ _ er s' I2 hq'
  | ok fl =>
    cases fl with
    | ret u =>
      obtain ⟨v, H3, I3, rv, ev, q3⟩ := I2.after hq'
      subst ev
      exact ⟨rv, .ref (hp.objs.size + 1), H3, I3, rfl, q3⟩
    | next => exact False.elim hq'
    | brk => exact False.elim hq'
    | cont => exact False.elim hq'
end
section
variable {X : Cx} {e : Expr} {es : List Expr} {ta : TA} {p pos : Pos}
/-- C(e, ..) as a value, C an own error class without an __init__ of its own -/
theorem pe_err0 {x : Str} {C : Addr} (T : OexC X.K C) (iC : PySem.W.findIn X.K (.ref C) "__init__" = some (some (.builtin "ValueError.__init__"))) (hg : Gl X x) (hm : X.mg x = some (.ref C)) (ha : PA X (e :: es) ta)
    (hdb : (x == ("__debug__" : Str)) = false := by decide) (he : starEach (e :: es) X.env = (false, eval e X.env) :: starEach es X.env := by rfl) (hpl : (backTo pos (starEach es X.env)).any (·.1) = false := by rfl) :
    PE X (.Call (.Name x p) (e :: es) [] pos) (fun σ H Q => ta σ H fun vs H1 => vs.length ≤ 1000 ∧ ∀ a, H1 a = none → Q (.ref a) (upd H1 a (exo a C none))) := by
  refine ⟨fun pins s σ H Q I h => ?_⟩
  obtain ⟨nm, q, N, bs, bm, sn, sub, ab, col, dd, k0, k1, k2, k3, k5, hC, hbm⟩ := T.cls
  refine wpAny_Call_Name_kw (ld_glob I hg hm (PySem.W.callWith_K (h₀ := X.base) I.ok.mod.kin T.kC (thn (ha.run pos pins s σ H _ I h) fun us s1 ⟨vs, H1, I1, r1, hz, q1⟩ => ⟨I1.kIn, ?_⟩) he hpl) hdb)
  show wpAny _ _ (call (.ref C) us) _ _ _
  obtain ⟨hp, g, dr, tk, os⟩ := s1
  have hus : us.length ≤ sizeLine := by rw [← Paired.length r1, sizeLine_eq]; omega
  refine PySem.W.call_B F.excBase_ValueError (fun Y => PySem.HandSPX.refsVE_contains Y bm hbm) (I1.kIn _ _ hC) (PySem.W.looks_findIn I1.kIn iC) hus fun h' k he1 _ => ?_
  exact ⟨.ref (hp.objs.size + 1), _, I1.laid (t' := tk) (a := hp.objs.size + 1) (o := exo (hp.objs.size + 1) C none) k (Nat.le_succ _) (exo_ok he1), rfl, q1 _ (I1.hok.fresh (Nat.le_succ _))⟩
end
/-- an error of the class C, known as a value: no attributes yet, or these -/
def KErr (H : Hp) (a C : Addr) (fs : List (Str × V)) : Prop := (fs = [] ∧ H a = some (exo a C none)) ∨ ∃ dx, H a = some (exo a C (some dx)) ∧ H dx = some (exd dx fs)
theorem KErr.same {H H' : Hp} {a C : Addr} {fs : List (Str × V)} (k : KErr H a C fs) (e : ∀ b o, H b = some o → H' b = some o) : KErr H' a C fs := by
  rcases k with ⟨h1, h2⟩ | ⟨dx, h1, h2⟩
  · exact .inl ⟨h1, e _ _ h2⟩
  · exact .inr ⟨dx, e _ _ h1, e _ _ h2⟩
theorem KErr.inst {P : Program} {w : World} {H : Hp} {h : Heap} {a C : Addr} {fs : List (Str × V)} (hok : HOk P w H h) (k : KErr H a C fs) : ∃ (ox : Obj) (od : Option Obj), PySem.W.InstAt h a ox C od := by
  rcases k with ⟨_, h2⟩ | ⟨dx, h1, h2⟩
  · obtain ⟨t1, ho⟩ := exo_at hok h2
    exact ⟨_, none, ho, rfl, rfl, trivial⟩
  · obtain ⟨t1, ho⟩ := exo_at hok h1
    obtain ⟨mA, ⟨oD, _, _, hoD, _⟩, _⟩ := exd_at hok h2
    exact ⟨_, some oD, ho, rfl, rfl, hoD⟩
/-- isinstance(error, class) -/
def rIsX (K : PySem.W.Frag) : List V → Hp → VK → Prop := fun xs H Q => ∃ (a D : Addr) (fs : List (Str × V)) (c : V) (cv : Value) (b : Bool), xs = [.ref a, c] ∧ KErr H a D fs ∧ ExcC K D ∧ ClsV c cv ∧ PySem.W.kitOne K (.ref D) cv = some b ∧ Q (.bl b) H
theorem call_isX {X : Cx} : CallR X (.builtin "isinstance") (rIsX X.K) := by
  intro pins s σ H xs us Q I r h
  obtain ⟨a, D, fs, c, cv, b, rfl, ke, C, k, e, q⟩ := h
  obtain ⟨u1, u2, rfl, r1, r2⟩ := vals2 r
  obtain rfl : u1 = Value.ref a := r1
  have e2 := k.eq r2
  subst e2
  obtain ⟨ox, od, J⟩ := ke.inst I.hok
  obtain ⟨cdD, hcD, _⟩ := PySem.W.any_some C.hd
  exact PySem.W.kia_one (PySem.W.kitx_exc (by rw [hcD]; rfl) C.hg C.hk C.hs C.ha C.hn C.ht C.hm) I.kIn J e (fun z => nomatch z) fun tk => ⟨.bl b, H, I.tok tk, rfl, q⟩
/-- error.name -/
theorem pe_xa {X : Cx} {e : Expr} {te : TE} {pos : Pos} {n : Str} (he : PE X e te) (hb : attributeBase e n X.env (eval e X.env) = eval e X.env := by rfl) :
    PE X (.Attribute e n pos) (fun σ H Q => te σ H fun x H1 => ∃ (a C : Addr) (fs : List (Str × V)) (v : V), x = .ref a ∧ KErr H1 a C fs ∧ XfC X.K C ∧ PySem.W.findIn X.K (.ref C) n = some none ∧ fs.lookup n = some v ∧ Q v H1) := by
  refine ⟨fun pins s σ H Q I h => attr_of hb (thn (he.run pins s σ H _ I h) fun u s1 hh => ?_)⟩
  obtain ⟨x, H1, I1, rx, a, C, fs, v, rfl, ke, T, hno, l, q⟩ := hh
  obtain rfl : u = Value.ref a := rx
  rcases ke with ⟨h1, _⟩ | ⟨dx, h1, h2⟩
  · rw [h1] at l; cases l
  · obtain ⟨t1, ho⟩ := exo_at I1.hok h1
    obtain ⟨mA, hns, rel⟩ := exd_at I1.hok h2
    obtain ⟨od, hod, hl⟩ := lookIn_ns hns
    obtain ⟨u, hu, ru⟩ := RelO.some_of (v := v) (o := mA n) (by rw [← l]; exact rel n)
    have J : PySem.W.InstAt s1.heap a _ C (some od) := ⟨ho, rfl, rfl, hod⟩
    exact HandSPX.exc_get I1.kIn J T.ga T.gg T.exC (PySem.W.findObj_own T.hdC hno rfl (by rw [hl, hu])) (handed_of ru) ⟨v, H1, I1.tok _, ru, q⟩
end Sx

set_option Elab.async false
set_option linter.all false
set_option maxRecDepth 100000
set_option maxHeartbeats 2000000
/-! repr of tracked data. -/
namespace Rp
open PySem PySem.Spec PyProof.Rows L2
/-- what repr needs of a value: the data that it reads as, all of its objects tracked -/
def Sh (P : Program) (w : World) (H : Hp) (x : V) (d : PyData) : Prop := ∀ h, HOk P w H h → ∀ u, RelV x u → ∃ as, Reads h u d as ∧ ∀ b ∈ as, ∃ o, H b = some o
def ShAll (P : Program) (w : World) (H : Hp) (xs : List V) (ds : List PyData) : Prop := ∀ h, HOk P w H h → ∀ us, Vals xs us → ∃ as, ReadsAll h us ds as ∧ ∀ b ∈ as, ∃ o, H b = some o
section
variable {P : Program} {w : World} {H H' : Hp} {x : V} {d : PyData} {xs : List V} {ds : List PyData} {a : Addr}
theorem sh_non : Sh P w H .non .none := fun h _ u r => by cases (show u = Value.none from r); exact ⟨[], .none, fun b z => nomatch z⟩
theorem sh_bl (b : Bool) : Sh P w H (.bl b) (.bool b) := fun h _ u r => by cases (show u = Value.bool b from r); exact ⟨[], .bool b, fun b z => nomatch z⟩
theorem sh_int (i : Int) : Sh P w H (.int i) (.int i) := fun h _ u r => by obtain ⟨t, rfl⟩ := (show ∃ t, u = Value.int i t from r); exact ⟨[], .int i t, fun b z => nomatch z⟩
theorem sh_str (y : Str) : Sh P w H (.str y) (.str y) := fun h _ u r => by obtain ⟨t, rfl⟩ := (show ∃ t, u = Value.str y t from r); exact ⟨[], .str y t, fun b z => nomatch z⟩
theorem sh_nil : ShAll P w H [] [] := fun h _ us r => by cases r; exact ⟨[], .nil, fun b z => nomatch z⟩
theorem sh_cons (h1 : Sh P w H x d) (h2 : ShAll P w H xs ds) : ShAll P w H (x :: xs) (d :: ds) := fun h k us r => by
  cases r with
  | cons r1 r2 =>
    obtain ⟨a1, p1, q1⟩ := h1 h k _ r1
    obtain ⟨a2, p2, q2⟩ := h2 h k _ r2
    exact ⟨_, .cons p1 p2, fun b z => (List.mem_append.mp z).elim (q1 b) (q2 b)⟩
theorem sh_lst (ha : H a = some (.lst xs)) (hx : ShAll P w H xs ds) : Sh P w H (.ref a) (.list ds) := fun h k u r => by
  cases (show u = Value.ref a from r)
  obtain ⟨_, its, n, rv, e⟩ := (show ObjOk P w H h a (.lst xs) from k a _ ha)
  obtain ⟨as, p, q⟩ := hx h k its rv
  refine ⟨a :: as, .list e rfl rfl p, fun b z => ?_⟩
  rcases List.mem_cons.mp z with rfl | z
  · exact ⟨_, ha⟩
  · exact q b z
theorem sh_tup (ha : H a = some (.tup xs)) (hx : ShAll P w H xs ds) : Sh P w H (.ref a) (.tuple ds) := fun h k u r => by
  cases (show u = Value.ref a from r)
  obtain ⟨_, its, rv, o, h1, h2, n, h3⟩ := (show ObjOk P w H h a (.tup xs) from k a _ ha)
  obtain ⟨as, p, q⟩ := hx h k its rv
  exact ⟨as, .tuple h1 h2 h3 p, q⟩
theorem sh_dict1 {y : Str} (ha : H a = some (.dK [((Sum.inr y : Key), x)])) (hx : Sh P w H x d) : Sh P w H (.ref a) (.dict [(.str y, d)]) := fun h k u r => by
  cases (show u = Value.ref a from r)
  obtain ⟨_, _, vs, kv, o, es, ep, h1, h2, h3, _, h5, _⟩ := (show ObjOk P w H h a (.dK [((Sum.inr y : Key), x)]) from k a _ ha)
  cases kv with
  | @cons p0 q0 _ _ kr kt =>
    cases kt
    obtain ⟨k1, v1⟩ := q0
    obtain ⟨e1, e2⟩ := kr
    obtain rfl : Sum.inr y = k1 := e1
    generalize he : es.toList = el at h5
    cases h5 with
    | @cons en _ er _ i1 i2 i3 =>
      cases i3
      obtain ⟨as, p, q⟩ := hx h k v1 e2
      have i2 : en.val = v1 := i2
      have ek : ∃ t, en.key = Value.str y t := by
        rcases keyIs_shape (show keyIs (Sum.inr y) en.key = true from i1) with ⟨i, t, h1, h2⟩ | ⟨z, t, h1, h2⟩
        · first | cases h1 | cases h2
        · first | (cases h2; exact ⟨t, h1⟩) | (cases h1; exact ⟨t, h2⟩)
      obtain ⟨t, ek⟩ := ek
      refine ⟨_, .dict (as := [] ++ []) (bs := as ++ []) h1 h2.1 h3 ?_ ?_, fun b z => ?_⟩
      · rw [he, List.map_cons, List.map_nil, ek]
        exact .cons (.str y t) .nil
      · rw [he, List.map_cons, List.map_nil, i2]
        exact .cons p .nil
      · rcases List.mem_cons.mp z with rfl | z
        · exact ⟨_, ha⟩
        · exact q b (by simpa using z)
end
mutual
/-- tracked data, dicts of one text key among it -/
inductive Dt (H : Hp) : V → PyData → Prop
  | non : Dt H .non .none
  | bl (b : Bool) : Dt H (.bl b) (.bool b)
  | int (i : Int) : Dt H (.int i) (.int i)
  | str (x : Str) : Dt H (.str x) (.str x)
  | lst {a : Addr} {xs : List V} {ds : List PyData} : H a = some (.lst xs) → DtAll H xs ds → Dt H (.ref a) (.list ds)
  | tup {a : Addr} {xs : List V} {ds : List PyData} : H a = some (.tup xs) → DtAll H xs ds → Dt H (.ref a) (.tuple ds)
  | one {a : Addr} {y : Str} {x : V} {d : PyData} : H a = some (.dK [((Sum.inr y : Key), x)]) → Dt H x d → Dt H (.ref a) (.dict [(.str y, d)])
inductive DtAll (H : Hp) : List V → List PyData → Prop
  | nil : DtAll H [] []
  | cons {v : V} {vs : List V} {d : PyData} {ds : List PyData} : Dt H v d → DtAll H vs ds → DtAll H (v :: vs) (d :: ds)
end
mutual
theorem Dt.same {H H' : Hp} (e : ∀ b o, H b = some o → H' b = some o) {v : V} {d : PyData} (h : Dt H v d) : Dt H' v d := by
  cases h with
  | non => exact .non
  | bl b => exact .bl b
  | int i => exact .int i
  | str x => exact .str x
  | lst ha hx => exact .lst (e _ _ ha) (hx.same e)
  | tup ha hx => exact .tup (e _ _ ha) (hx.same e)
  | one ha hx => exact .one (e _ _ ha) (hx.same e)
theorem DtAll.same {H H' : Hp} (e : ∀ b o, H b = some o → H' b = some o) {vs : List V} {ds : List PyData} (h : DtAll H vs ds) : DtAll H' vs ds := by
  cases h with
  | nil => exact .nil
  | cons h1 h2 => exact .cons (h1.same e) (h2.same e)
end
mutual
theorem Dt.sh {P : Program} {w : World} {H : Hp} {v : V} {d : PyData} (h : Dt H v d) : Sh P w H v d := by
  cases h with
  | non => exact sh_non
  | bl b => exact sh_bl b
  | int i => exact sh_int i
  | str x => exact sh_str x
  | lst ha hx => exact sh_lst ha hx.sh
  | tup ha hx => exact sh_tup ha hx.sh
  | one ha hx => exact sh_dict1 ha hx.sh
theorem DtAll.sh {P : Program} {w : World} {H : Hp} {vs : List V} {ds : List PyData} (h : DtAll H vs ds) : ShAll P w H vs ds := by
  cases h with
  | nil => exact sh_nil
  | cons h1 h2 => exact sh_cons h1.sh h2.sh
end
section
variable {X : Cx}
/-- repr(x) of tracked data, where no repr runs -/
def rRepr : List V → Hp → VK → Prop := fun xs H Q => ∃ (a : Addr) (d : PyData), xs = [.ref a] ∧ Dt H (.ref a) d ∧ d.showable = true ∧ d.depth ≤ 64 ∧ d.shown.length ≤ sizeLine ∧ Q (.str d.shown) H
theorem call_reprD (hg : X.A.guards = some []) (hu : X.A.units + 100 < cLine) (hs : ∃ mm, X.base.Ns sysModules mm) : CallR X (.builtin "repr") rRepr := by
  intro pins s σ H xs us Q I r h
  obtain ⟨a, d, rfl, sh, h1, h2, h3, q⟩ := h
  obtain ⟨u, rfl, ru⟩ := vals1 r
  obtain rfl : u = Value.ref a := ru
  obtain ⟨as, p, hb⟩ := sh.sh (P := X.prog) (w := X.w) s.heap I.hok (.ref a) rfl
  obtain ⟨mm, o, _, _, ho, _⟩ := hs
  have hn : sysModules ∉ as := fun z => by
    obtain ⟨o', e⟩ := hb _ z
    rw [(I.bs _ _ ho).2] at e
    cases e
  exact repr_of_reads' p h1 (fun _ => hn) hg (by omega) (fun b o e => e) (fun h' u tk k => ⟨.str d.shown, H, I.kept (t' := tk) k, ⟨u, rfl⟩, q⟩) h3
end
end Rp

set_option Elab.async false
set_option linter.all false
set_option maxRecDepth 100000
set_option maxHeartbeats 2000000
/-! The law's own def, at the very frame from which it is called (no repr runs there). -/
namespace Lw
open PySem PySem.Spec PyProof.Rows L2
section
variable {CX : CXT} {P : Program} {w : World} {K : PySem.W.Frag} {mg : Str → Option Value} {base : Heap} {k : Nat} {f : Addr} {name qual : Str} {params : Arguments} {body : List Stmt} {scope : Scope} {dV kV doc pm cdv ct oc : Value} {an od : Option Addr} {osl : Array (Option Value)} {N ps : List Str}
/-- a def of the text by its body, at one frame -/
theorem run_at {A : Around} {outer : List Env} {s : Shared} {H : Hp} {args : Args} {us : List Value} {vs : List V} {Q : VK} {E : XK} (lk : K.lookup f = some ⟨oc, od, .func (PySem.W.fnOf name qual params body scope dV kV doc pm an cdv ct), osl⟩) (hcd : PySem.W.codeIn K cdv qual = true) (S : FnScope N ps scope)
    (hr : Room (k + 1) A) (e0 : Env0 P w K mg base A outer s H) (hb : BindsTo s (PySem.W.fnOf name qual params body scope dV kV doc pm an cdv ct) args (ps.zip us)) (r : Vals vs us) (hl : vs.length = ps.length) {t : TS}
    (ht : PSs (cxOf CX P w K mg base N qual scope f cdv A outer s H E) body t) (hq : t { nx := fun _ H' => Q .non H', rt := Q } (start N vs) H) :
    codeAny (model P w) A (.call (.ref f) args) (CR CX outer P w H s Q E) s := by
  have KX : K.In s.heap := e0.mod.kin.keeps fun b o e => (e0.bs b o e).1
  have lim := e0.mod.nolimit.keeps fun b o e => (e0.bs b o e).1
  refine codeAny_call_function hr.depth (KX _ _ lk) rfl S.co S.gen rfl (PySem.W.codeRec_of KX hcd) (hb _ _ _ _ (wpAny_newFunctionEnv_cells S.kind (fun ⟨n, v⟩ hy => ?_) fun env he s1 x => ?_))
  · rcases S.par n (List.of_mem_zip hy).1 with q | q
    · exact .inl q
    · exact .inr ⟨q, PySem.W.cellsFrom_some _ _ _ (.inl q)⟩
  subst he
  refine ⟨lim.keeps x.toInCall.keep, codeAny_func (wpAny_mono (ht.run [] s1 (start N vs) H _ (inv_start S hr.hd e0 hl r x) hq) (fun fl s' hs => ?_) fun e s' hs => hs)⟩
  cases fl with
  | ret u => exact let ⟨v, _, H', J, rv, q⟩ := hs; ⟨v, H', J.os, J.bare, J.base, J.hok, rv, q⟩
  | next => exact let ⟨_, H', J, q⟩ := hs; ⟨V.non, H', J.os, J.bare, J.base, J.hok, rfl, q⟩
  | brk => exact let ⟨_, _, _, q⟩ := hs; q.elim
  | cont => exact let ⟨_, _, _, q⟩ := hs; q.elim
end
section
variable {P : Program} {w : World} {K : PySem.W.Frag} {mg mb : Str → Option Value} {fa a : Addr} {s : Shared} {vs : List Value} {ns : List Int}
/-- what the law's def must do: from a heap in which the script alone may be tracked -/
def LawAt (P : Program) (w : World) (K : PySem.W.Frag) (mg : Str → Option Value) (fa : Addr) : Prop := ∀ (base : Heap) (s : Shared) (H : Hp) (a : Addr) (ns : List Int), K.In base → base.Ns mainGlobals mg → (∃ mm, base.Ns sysModules mm) → Env0 P w K mg base callerA [] s H → SqL K H a (ns.map V.int) → ns.length ≤ 63 →
  codeAny (model P w) callerA (.call (.ref fa) ⟨[.ref a], []⟩) (CR CX0 [] P w H s (fun v _ => v = .bl true) E0) s
theorem law_here (L : LawAt P w K mg fa) (KX : K.In s.heap) (hns : s.heap.Ns mainGlobals mg) (hb : s.heap.Ns builtinsNs mb) (hbb : ∀ x : Str, x ≠ "__name__" → mb x = bootBuiltins x) (hlim : s.heap.NoLimit) (hsm : ∃ mm, s.heap.Ns sysModules mm) (hg : s.gens = #[])
    (ha : s.heap.get? a = some { cls := .type "list", data := .seq vs.toArray }) (hi : IntsAre vs ns) (hl : ns.length ≤ 63) :
    codeAny (model P w) callerA (.call (.ref fa) ⟨[.ref a], []⟩) (fun r s' => r = .ok (.ret (.bool true)) ∧ OldK s.heap s'.heap ∧ s'.os = s.os ∧ AllBare s'.gens) s := by
  have l63 : ns.length ≤ sizeLine := Nat.le_trans hl (by decide)
  -- one tracked heap for both cases
  suffices main : ∀ H : Hp, (∀ b o, H b = some o → b = a ∧ o = .frz { cls := .type "list", data := .seq vs.toArray } (.lst (ns.map V.int)) ∧ K.lookup a = none) → SqL K H a (ns.map V.int) → codeAny (model P w) callerA (.call (.ref fa) ⟨[.ref a], []⟩) (fun r s' => r = .ok (.ret (.bool true)) ∧ OldK s.heap s'.heap ∧ s'.os = s.os ∧ AllBare s'.gens) s by
    cases hk : K.lookup a with
    | some o =>
      have e := (KX a o hk).symm.trans ha
      cases e
      refine main (fun _ => none) (fun b o z => nomatch (show (none : Option HO) = some o from z)) (.inr ⟨_, vs.toArray, _, hk, rfl, rfl, rfl, ?_, by simpa using vals_ints hi⟩)
      rw [List.size_toArray, hi.length]; exact l63
    | none =>
      refine main (fun b => if b = a then some (.frz { cls := .type "list", data := .seq vs.toArray } (.lst (ns.map V.int))) else none) (fun b o z => ?_) (.inl (.inr ⟨_, if_pos rfl⟩))
      by_cases e : b = a
      · have z := (if_pos e).symm.trans z
        cases z
        exact ⟨e, rfl, hk⟩
      · exact nomatch (if_neg e).symm.trans z
  intro H hH hS
  let B := hidT s.heap H
  have keep : ∀ b o, s.heap.get? b = some o → H b = none → B.get? b = some o := fun b o e n => hidT_get e n
  have nsB : ∀ {b : Addr} {m : Str → Option Value}, s.heap.Ns b m → B.Ns b m := fun {b m} ⟨o, es, ep, e, d, r⟩ => by
    refine ⟨o, es, ep, keep b o e ?_, d, r⟩
    cases q : H b with
    | none => rfl
    | some u =>
      obtain ⟨rfl, _, _⟩ := hH b u q
      rw [ha] at e; cases e; cases d
  have KB : K.In B := fun b o e => by
    refine keep b o (KX b o e) ?_
    cases q : H b with
    | none => rfl
    | some u =>
      obtain ⟨rfl, _, hk⟩ := hH b u q
      rw [hk] at e; cases e
  have hok : HOk P w H s.heap := fun b o e => by
    obtain ⟨rfl, rfl, _⟩ := hH b o e
    exact ⟨ha, by rw [List.length_map]; exact l63, vs, _, vals_ints hi, ha⟩
  have M : Mod K mg B := ⟨KB, nsB hns, ⟨mb, nsB hb, hbb⟩, (fun ⟨mc, h1, h2⟩ => ⟨mc, nsB h1, h2⟩) hlim⟩
  have e0 : Env0 P w K mg B callerA [] s H := ⟨rfl, M, fun b o e => of_hidT e, Nat.le_of_eq (hidT_size _ _), trivial, (fun b hb => absurd (show b ∈ ([] : List Addr) from hb) (by simp)), hok, AllBare.of_eq hg⟩
  refine codeAny_mono (L B s H a ns KB (nsB hns) (hsm.imp fun _ z => nsB z) e0 hS hl) fun r s' h => ?_
  cases r with
  | error e => exact (show False from h).elim
  | ok fl =>
    cases fl with
    | next => exact (show False from h).elim
    | brk => exact (show False from h).elim
    | cont => exact (show False from h).elim
    | ret u =>
      obtain ⟨v, H', os, bare, un, hok', r', rfl⟩ := h
      obtain rfl : u = Value.bool true := r'
      refine ⟨rfl, OldK.of_keep fun b o e => ?_, os, bare⟩
      cases q : H b with
      | none => exact un.keep b o e q (fun z => nomatch (show b ∈ ([] : List Addr) from z)) (fun z => nomatch z)
      | some u =>
        obtain ⟨rfl, rfl, _⟩ := hH b u q
        have z := hok' b _ (un.frzs b _ _ q)
        rw [ha] at e; cases e
        exact z.1
end
/-- the goal that k_head leaves -/
theorem walk_here {l : PySem.W.OpenLaw} {q : Program} {loose : List Str} {XP : (Str → Option Value) → Heap → Prop} {YP : World → Heap → Prop} {d : DefRec} {K : Params → PySem.W.Frag} (hn : l.most = some 63) (hdf : d.params.defaults = []) (hin : PyProof.Rows.importsNone q = true)
    (hY : ∀ (w : World) (h : Heap), YP w h → (K w.params).In h)
    (F : ∀ (w : World) (mg : Str → Option Value) (fa : Addr) (h : Heap), (K w.params).In h → h.Ns mainGlobals mg → mg d.name = some (.ref fa) → LawAt l.prog w (K w.params) mg fa) :
    PySem.W.WalkO q loose XP YP l.row.toRowW d [] (fun f vs => PySem.call f vs) := by
  refine Att.attach_call hn hdf fun w s₀ s₁ mg mb fa o pm cd doc a vs ns G Y ho hd hcd hmg hobj hints hlen hg => ?_
  have KX := hY w _ Y
  exact law_here (F w mg fa _ KX G.T.g hmg) KX G.T.g G.T.b G.T.builtins G.T.nolimit ((G.T.seer hin).mods.imp fun _ z => z.1) hg hobj hints hlen
/-- the same over a head by facts -/
theorem walk_hereE {l : PySem.W.OpenLaw} {q : Program} {loose : List Str} {XP : (Str → Option Value) → Heap → Prop} {YP : World → Heap → Prop} {d : DefRec} (hn : l.most = some 63) (hdf : d.params.defaults = []) (hin : PyProof.Rows.importsNone q = true)
    (F : ∀ (w : World) (mg : Str → Option Value) (fa : Addr) (h : Heap), YP w h → h.Ns mainGlobals mg → mg d.name = some (.ref fa) → ∃ K : PySem.W.Frag, K.In h ∧ LawAt l.prog w K mg fa) :
    PySem.W.WalkO q loose XP YP l.row.toRowW d [] (fun f vs => PySem.call f vs) := by
  refine Att.attach_call hn hdf fun w s₀ s₁ mg mb fa o pm cd doc a vs ns G Y ho hd hcd hmg hobj hints hlen hg => ?_
  obtain ⟨K, KX, L⟩ := F w mg fa _ Y G.T.g hmg
  exact law_here L KX G.T.g G.T.b G.T.builtins G.T.nolimit ((G.T.seer hin).mods.imp fun _ z => z.1) hg hobj hints hlen
end Lw

set_option Elab.async false
set_option linter.all false
set_option maxRecDepth 100000
set_option maxHeartbeats 2000000
/-! elements of generator expressions over a text: a sign between two, one test or another. -/
namespace Gn
open PySem PySem.Spec PyProof.Rows L2 GxR
section
variable {prog : Program} {w : World} {scope : Scope} {x : Str}
theorem elt_in {lo hi : Str} {j1 j2 : Nat} {p1 p2 p3 p4 : Pos} (hk : scope.kind = .function) (hl : scope.names.lookup x = some .local) (hd : (x == ("__debug__" : Str)) = false := by decide) :
    EltP prog w scope x (.Compare (.Constant (.str lo) j1 p1) [.LtE, .LtE] [.Name x p2, .Constant (.str hi) j2 p3] p4) (fun c => !decide (([c] : List Nat) < lo.cps.toList) && !decide (hi.cps.toList < [c])) := by
  intro cenv A' E' c t s₂ m₂ hs hn hm
  refine Compare_chain (Calls.Constant_str (chain_link (wpAny_Name (wpAny_loadName_local (by rw [hs]; exact hk) (show cenv.scope.names.lookup x = some .local by rw [hs]; exact hl) hn hm ?_) hd))) (by with_unfolding_all rfl)
  refine PySem.P.le_str (wpAny_truthy_bool ?_)
  by_cases h : ([c] : List Nat) < lo.cps.toList
  · have e : (!decide ((#[c] : Array Nat).toList < lo.cps.toList)) = false := by simpa using h
    rw [e]
    refine ite_ff ⟨?_, keeps_tok _ _⟩
    simp [h]
  · have e : (!decide ((#[c] : Array Nat).toList < lo.cps.toList)) = true := by simpa using h
    rw [e]
    refine ite_tt (chain_last (Calls.Constant_str (PySem.P.le_str ⟨?_, keeps_tok _ _⟩)))
    simp [h]
theorem keeps_trans {s s1 s2 : Shared} (h1 : Keeps s s1) (h2 : Keeps s1 s2) : Keeps s s2 := by
  obtain ⟨a, b, rfl, k1⟩ := h1
  obtain ⟨c, d, rfl, k2⟩ := h2
  exact ⟨c, d, rfl, fun b o e => k2 b o (k1 b o e)⟩
theorem elt_or {e1 e2 : Expr} {p1 p2 : Nat → Bool} {pos : Pos} (h1 : EltP prog w scope x e1 p1) (h2 : EltP prog w scope x e2 p2) : EltP prog w scope x (.BoolOp .Or [e1, e2] pos) (fun c => p1 c || p2 c) := by
  intro cenv A' E' c t s₂ m₂ hs hn hm
  refine BoolOp_or (wpAny_mono (h1 cenv A' E' c t s₂ m₂ hs hn hm) (fun v s₃ hv => ?_) fun _ _ z => z)
  obtain ⟨rfl, k⟩ := hv
  refine wpAny_truthy_bool ?_
  cases q : p1 c with
  | true => exact ite_tt ⟨by simp [q], k⟩
  | false =>
    refine ite_ff ?_
    refine BoolOp_one ?_
    have k2 := k
    obtain ⟨h', tk, rfl, kk⟩ := k2
    obtain ⟨o, es, ep, ho, r⟩ := hn
    refine wpAny_mono (h2 cenv A' E' c t _ m₂ hs ⟨o, es, ep, kk _ _ ho, r⟩ hm) (fun v s4 hv => ⟨?_, keeps_trans k hv.2⟩) fun _ _ z => z
    rw [hv.1]; simp [q]
end
end Gn

set_option Elab.async false
set_option linter.all false
set_option maxRecDepth 100000
set_option maxHeartbeats 2000000
/-! A generator expression over anything that PI serves, its element any expression (with calls): made, then walked by a consumer. -/
namespace Gx
open PySem PySem.Spec PyProof.Rows L2 GxR GenW

/-- a generator expression's names N: its own, and captured ones (cap: their places in the def's names) -/
structure GSc (N : List Str) (sc scope : Scope) (N' : List Str) (cap : List (Option Nat)) : Prop where
  kind : scope.kind = .function
  co : scope.isCoroutine = false
  cell : ∀ y ∈ scope.names, y.2 ≠ .cell
  dot : scope.names.lookup (".0" : Str) = some NameKind.local
  free : ∀ y ∈ scope.names, y.2 = .free → sc.names.lookup y.1 = some .cell ∨ sc.names.lookup y.1 = some .free
  uniq : ∀ y ∈ scope.names, scope.names.lookup y.1 = some y.2
  len : cap.length = N'.length
  cap : ∀ (j i : Nat), cap[j]? = some (some i) → ∃ y : Str, N'[j]? = some y ∧ N[i]? = some y ∧ scope.names.lookup y = some NameKind.free
def gscB (N : List Str) (sc scope : Scope) (N' : List Str) (cap : List (Option Nat)) : Bool :=
  scope.names.all (fun y => !(y.2 == .cell)) && (scope.names.lookup (".0" : Str) == some NameKind.local)
    && scope.names.all (fun y => !(y.2 == .free) || (sc.names.lookup y.1 == some .cell || sc.names.lookup y.1 == some .free))
    && scope.names.all (fun y => scope.names.lookup y.1 == some y.2)
    && (cap.length == N'.length)
    && (cap.zip N').all (fun q => match q.1 with | none => true | some i => N[i]? == some q.2 && scope.names.lookup q.2 == some NameKind.free)
theorem gsc_by {N : List Str} {sc scope : Scope} {N' : List Str} {cap : List (Option Nat)} (h : gscB N sc scope N' cap = true) (hk : scope.kind = .function := by rfl) (hc : scope.isCoroutine = false := by rfl) : GSc N sc scope N' cap := by
  unfold gscB at h
  simp only [Bool.and_eq_true] at h
  obtain ⟨⟨⟨⟨⟨h1, h2⟩, h3⟩, h4⟩, h5⟩, h6⟩ := h
  have h5' : cap.length = N'.length := by simpa using h5
  refine ⟨hk, hc, fun y hy e => ?_, by simpa using h2, fun y hy e => ?_, fun y hy => ?_, h5', fun j i e => ?_⟩
  · have q := List.all_eq_true.mp h1 y hy
    rw [e] at q; revert q; decide
  · have q := List.all_eq_true.mp h3 y hy
    rw [e] at q
    simpa using q
  · have q := List.all_eq_true.mp h4 y hy
    simpa using q
  · obtain ⟨hj, ej⟩ := List.getElem?_eq_some_iff.mp e
    have hj2 : j < N'.length := by omega
    have hz : (some i, N'[j]) ∈ cap.zip N' := by
      refine List.mem_iff_getElem.mpr ⟨j, by rw [List.length_zip]; omega, ?_⟩
      rw [List.getElem_zip, ej]
    have q := List.all_eq_true.mp h6 _ hz
    simp only [Bool.and_eq_true, beq_iff_eq] at q
    exact ⟨N'[j], List.getElem?_eq_getElem hj2, q.1, q.2⟩
/-- the slots at the start -/
def capS (cap : List (Option Nat)) (σ : L2.St) : L2.St := cap.map fun o => match o with | some i => σ.getD i none | none => none
theorem capS_some {cap : List (Option Nat)} {σ : L2.St} {j : Nat} {v : V} (h : (capS cap σ)[j]? = some (some v)) : ∃ i, cap[j]? = some (some i) ∧ σ[i]? = some (some v) := by
  unfold capS at h
  rw [List.getElem?_map] at h
  cases e : cap[j]? with
  | none => rw [e] at h; cases h
  | some o =>
    rw [e] at h
    cases o with
    | none => cases h
    | some i =>
      refine ⟨i, rfl, ?_⟩
      have h' : σ.getD i none = some v := by simpa using h
      rw [List.getD_eq_getElem?_getD] at h'
      cases e2 : σ[i]? with
      | none => rw [e2] at h'; cases h'
      | some z => rw [e2] at h'; exact congrArg some h'

/-- the context of a generator expression's element -/
abbrev _root_.L2.Cx.gen (X : Cx) (s : Shared) (H : Hp) (cenv : Env) (A : Around) (N' : List Str) (fp : List Addr) (pn : List (Addr × Obj)) : Cx :=
  { X with A := A, N := N', s_0 := s, H_0 := H, env := cenv, outer := X.stack, stack := cenv :: X.stack, ex := fp, fn := fun _ => false, calm := true, pn := pn, xe := fun _ _ => False }
/-- its frame -/
abbrev cenvOf (X : Cx) (scope : Scope) (C : Addr) (code : Value) : Env := genEnv scope (cloFrom X.env.cells scope.names []) C code builtinsNs X.env

section
variable {X : Cx} {pins : List (Addr × Obj)} {σ : L2.St} {H : Hp} {s : Shared}
/-- made, not begun -/
structure GPk (X : Cx) (pins : List (Addr × Obj)) (σ : L2.St) (scope : Scope) (gpos : Pos) (elt tg iter : Expr) (N' : List Str) (cap : List (Option Nat)) (J : It) (H2 : Hp) (s4 : Shared) (code : Value) (it : Addr) (fp : List Addr) (tn : Nat → Heap → Prop) (a : Addr) (g : Nat) (gobj : Obj) (s5 : Shared) : Prop where
  inv4 : Inv X pins σ H2 s4
  turn : Turn X.prog X.w X.K tg J fp it tn
  tn0 : tn 0 s5.heap
  fpOk : ∀ b ∈ fp, FpOk X pins H2 b ∧ b < s4.heap.objs.size
  gen : s5.gens[g]? = some (.fresh (.compStart (.GeneratorExp elt [⟨tg, iter, [], 0⟩] scope gpos) 0 (.ref it) .none (cenvOf X scope s4.heap.objs.size code)))
  isg : ∀ h : Heap, h.get? a = some gobj → h.IsGen a g
  above : s4.heap.objs.size < a
  inv5 : ∀ A : Around, A.handled = none → A.frames = some (cenvOf X scope s4.heap.objs.size code :: X.stack) → Inv (X.gen s4 H2 (cenvOf X scope s4.heap.objs.size code) A N' fp [(a, gobj)]) [] (capS cap σ) H2 s5

theorem clo_look {cells : List (Str × Addr)} {names : List (Str × NameKind)} {y : Str} {c : Addr} (h : (cloFrom cells names []).lookup y = some c) : (y, NameKind.free) ∈ names ∧ c = (cells.lookup y).getD 0 := by
  rcases cloFrom_mem (PySem.mem_of_lookup h) with z | z
  · cases z
  · exact z
theorem clo_has {cells : List (Str × Addr)} {names : List (Str × NameKind)} {y : Str} {c : Addr} (h : (y, NameKind.free) ∈ names) (hc : cells.lookup y = some c) : (cloFrom cells names []).lookup y = some c := by
  obtain ⟨c', e⟩ := mem_lookup (cloFrom_has (cells := cells) (acc := []) h)
  rw [e, (clo_look e).2, hc]; rfl

theorem gx_make {elt tg iter : Expr} {scope : Scope} {gpos : Pos} {c P : Addr} {wi : TI} {N' : List Str} {cap : List (Option Nat)} {R : It → Hp → Prop} {Q' : Value → Shared → Prop} {k : Nat}
    (hr : Room k X.A) (TB : TabB X.base X.mg c P) (hcode : X.env.code = .ref c) (S : GSc X.N X.env.scope scope N' cap) (hi : PI X tg iter wi)
    (hs : ∀ v, genFold iter X.env v = pure v) (I : Inv X pins σ H s) (h : wi σ H fun J H1 => TabG H1 P ∧ ∀ H2, Tabbed P H1 H2 → R J H2)
    (hQ : ∀ J H2 s4 code it fp tn a g gobj s5, GPk X pins σ scope gpos elt tg iter N' cap J H2 s4 code it fp tn a g gobj s5 → R J H2 → Q' (.ref a) s5) :
    wpAny (model X.prog X.w) X.A (eval (.GeneratorExp elt [⟨tg, iter, [], 0⟩] scope gpos) X.env) Q' X.xe s := by
  have hfree : ∀ y ∈ scope.names, y.2 = .free → ∃ c, X.env.cells.lookup y.1 = some c := fun y hy e => by
    rcases S.free y hy e with q | q
    · exact I.ok.has _ (.inl q)
    · exact I.ok.has _ (.inr q)
  refine wpAny_GeneratorExp_make S.co (closure_ok hfree) S.cell S.dot S.kind (by have := hr.dp; omega) ?_ hs
  refine thn (hi.run pins s σ H _ I h) fun v s1 h1 => thn h1 fun itv s2 h2 => ?_
  obtain ⟨it, fp, tn, J, H1, e, I2, T, st2, f2, ⟨ps, hP, ht⟩, hR⟩ := h2
  subst e
  refine ⟨I2.nolimit, ?_⟩
  have hPs : s2.heap.get? P = some { cls := .none, data := .fields ps } := I2.hok P _ hP
  have hPlt : P < s2.heap.objs.size := Heap.lt_size hPs
  have cd : PySem.W.CodeHd s2.heap c P := TB.code.keeps fun b u e => I2.bk b u e
  have cont : ∀ (code : Value) (h3 : Heap) (tk : Nat) (ps' : Array Value), Heap.ExtBut P s2.heap h3 → s2.heap.objs.size ≤ h3.objs.size → h3.get? P = some { cls := .none, data := .fields ps' } → (∃ more, ps' = ps ++ more) → TriplesOk ps'.toList →
      wpAny (model X.prog X.w) X.A (builtinsFor X.env.globals X.env.builtins) (fun bi s₄ =>
        ∀ h', h'.Ns s₄.heap.objs.size (fun y => if y = ".0" then some (.ref it) else none) → Heap.SameBut s₄.heap.objs.size (s₄.heap.push { cls := .type "frame", data := .dict #[] }) h' →
          Q' (.ref h'.objs.size) { s₄ with
            gens := s₄.gens.push (.fresh (.compStart (.GeneratorExp elt [⟨tg, iter, [], 0⟩] scope gpos) 0 (.ref it) .none (genEnv scope (cloFrom X.env.cells scope.names []) s₄.heap.objs.size code bi X.env))),
            toks := s₄.toks + 1 + 1 + 1,
            heap := h'.push { cls := .type "generator", data := .fields #[.int s₄.gens.size 0, .str "<genexpr>" (s₄.toks + 1), .str (X.env.qual ++ "<genexpr>") (s₄.toks + 1 + 1)] } }) X.xe { s2 with heap := h3, toks := tk } := by
    intro code h3 tk ps' hx hsz hP3 hmore ht3
    obtain ⟨bm, ob, e1, e2, e3, e4, e5, e6, e7, e8⟩ := TB.bm
    have keep3 : ∀ b u, b ≠ P → s2.heap.get? b = some u → h3.get? b = some u := fun b u hb e => hx b u hb e
    refine wpAny_builtinsFor (m := X.mg) (by rw [I2.ok.glob]; exact (I2.mod.glob.keeps I2.bk).extBut hx TB.gP) e1 e2 (keep3 _ _ e4 (I2.bk _ _ e5)) e6 e7 e8 ?_
    intro h' hns hsb
    obtain ⟨more, em⟩ := hmore
    have I4 : Inv X pins σ (upd H1 P (.tbl (ps ++ more))) { s2 with heap := h3, toks := tk } :=
      inv_tab (more := more) (h' := h3) (g' := s2.gens) (d' := s2.drawn) (t' := tk) I2 hP keep3 (by rw [← em]; exact hP3) I2.bare
    have hT : Tabbed P H1 (upd H1 P (.tbl (ps ++ more))) := ⟨⟨ps ++ more, upd_same, by rw [← em]; exact ht3⟩, fun b hb => upd_ne hb⟩
    generalize upd H1 P (.tbl (ps ++ more)) = H2 at I4 hT
    have nfp : ∀ b ∈ fp, b ≠ P := fun b hb z => by
      have := (f2 b hb).1
      rw [z, hP] at this; cases this
    have f4 : ∀ b ∈ fp, FpOk X pins H2 b := fun b hb => ⟨by rw [hT.2 b (nfp b hb)]; exact (f2 b hb).1, (f2 b hb).2⟩
    have lt4 : ∀ b ∈ fp, b < h3.objs.size := fun b hb => by
      obtain ⟨o, eo, _⟩ := T.obj 0 _ st2 b hb
      exact Nat.lt_of_lt_of_le (Heap.lt_size eo) hsz
    have tn3 : tn 0 h3 := T.keep 0 _ _ st2 fun b hb o e => keep3 b o (nfp b hb) e
    generalize hgo : ({ cls := .type "generator", data := .fields #[.int s2.gens.size 0, .str "<genexpr>" (tk + 1), .str (X.env.qual ++ "<genexpr>") (tk + 1 + 1)] } : Obj) = gobj
    have hsz' : h'.objs.size = h3.objs.size + 1 := by rw [hsb.1]; exact Heap.size_push _ _
    have keep' : ∀ b o, h3.get? b = some o → h'.get? b = some o := fun b o e => hsb.extBut b o (Nat.ne_of_lt (Heap.lt_size e)) (Heap.get?_push_of_some _ e)
    have keep5 : ∀ b o, h3.get? b = some o → (h'.push gobj).get? b = some o := fun b o e => Heap.get?_push_of_some _ (keep' b o e)
    have hpush : (h'.push gobj).get? h'.objs.size = some gobj := by rw [← hgo]; exact Heap.get?_push_size _ rfl
    refine hQ J H2 { s2 with heap := h3, toks := tk } code it fp tn h'.objs.size s2.gens.size gobj _ ⟨I4, T, ?_, fun b hb => ⟨f4 b hb, lt4 b hb⟩, ?_, ?_, ?_, ?_⟩ (hR _ hT)
    · exact T.keep 0 _ _ tn3 fun b hb o e => keep5 b o e
    · exact Array.getElem?_push_size ..
    · intro hh e
      exact ⟨gobj, _, _, e, by rw [← hgo], by rw [← hgo], by rw [← hgo]⟩
    · show h3.objs.size < h'.objs.size
      omega
    · intro A hA hAf
      have hcl : ∀ {y c}, (cloFrom X.env.cells scope.names []).lookup y = some c → X.env.cells.lookup y = some c := fun {y c} e => by
        obtain ⟨z1, z2⟩ := clo_look e
        obtain ⟨c', ec⟩ := hfree _ z1 rfl
        rw [z2, ec]; rfl
      have hcc : ∀ {y c}, X.env.cells.lookup y = some c → ∃ v, h3.IsCell c v ∧ c < h3.objs.size := fun {y c} e => by
        obtain ⟨v, z⟩ := I4.cell y c e
        exact ⟨v, z, z.lt⟩
      refine ⟨⟨I4.ok.mod, S.kind, I4.ok.glob, rfl, Nat.le_refl _, fun y z c a b => I4.ok.inj y z c (hcl a) (hcl b), fun y hy => ?_, fun y c z e => (nomatch z), fun _ => hA, hAf, .inr ⟨rfl, rfl⟩, fun b hb => ⟨Nat.ne_of_lt (lt4 b hb), fun y c e => (f4 b hb).2.2.2.2.1 y c (hcl e)⟩, I4.bs, Nat.le_trans I4.ok.bsz I4.sz, fun b o e hb => ?_, fun b hb z => ?_, I4.stack, I4.stkFree⟩,
        rfl, ?_, Un.kept keep5, ⟨_, hns.push _, fun i y v e1 e2 e3 => ?_⟩, fun y c e => ?_, I4.hok.fresh (Nat.le_refl _), fun y c e => I4.freeC y c (hcl e), fun p hp => ?_, I4.hok.kept keep5, ?_⟩
      · have hy : scope.names.lookup y = some .cell ∨ scope.names.lookup y = some .free := hy
        rcases hy with hy | hy
        · exact absurd rfl (S.cell _ (PySem.mem_of_lookup hy))
        · obtain ⟨c', ec⟩ := hfree _ (PySem.mem_of_lookup hy) rfl
          exact ⟨c', clo_has (PySem.mem_of_lookup hy) ec⟩
      · rcases (f4 b hb).2.2.2.1 with z | z
        · exact I4.ok.noex b o e z
        · exact absurd (Nat.lt_of_lt_of_le (Heap.lt_size e) (Nat.le_trans I4.ok.bsz z)) (Nat.lt_irrefl _)
      · rcases List.mem_cons.mp (I4.stkSub b z) with y | y
        · exact (f4 b hb).2.1 y
        · exact (f4 b hb).2.2.1 y
      · exact AllBare.push I2.bare rfl
      · obtain ⟨i0, c1, c2⟩ := capS_some e2
        obtain ⟨y', d1, d2, d3⟩ := S.cap i i0 c1
        have ey : y' = y := by
          have e1' : N'[i]? = some y := e1
          rw [e1'] at d1; exact (Option.some.inj d1).symm
        subst ey
        obtain ⟨m, hn, hl⟩ := I4.loc
        have hm := PySem.mem_of_lookup d3
        have vis : X.env.scope.names.lookup y' = some .cell ∨ X.env.scope.names.lookup y' = some .free := S.free _ hm rfl
        obtain ⟨u, ru, lk⟩ := hl i0 y' v d2 c2 (.inr vis)
        refine ⟨u, ru, .inr ⟨.inr d3, ?_⟩⟩
        rcases lk with ⟨k1, _⟩ | ⟨_, c', ec, hc'⟩
        · have k1' : X.env.scope.names.lookup y' = some .local := k1
          rcases vis with z | z <;> rw [z] at k1' <;> cases k1'
        · obtain ⟨o, ho, hd⟩ := hc'
          exact ⟨c', clo_has hm ec, o, keep5 _ _ ho, hd⟩
      · obtain ⟨v, ⟨o, ho, hd⟩, _⟩ := hcc (hcl e)
        exact ⟨v, o, keep5 _ _ ho, hd⟩
      · have hp' : p = (h'.objs.size, gobj) := by simpa using hp
        rw [hp']
        refine ⟨hpush, I4.hok.fresh (by show h3.objs.size ≤ h'.objs.size; omega), ?_, fun z => ?_, fun v z => by rw [← hgo] at z; cases z⟩
        · show h'.objs.size ≠ h3.objs.size
          omega
        · obtain ⟨_, o, ho, _⟩ := I4.stack.mem z
          have ho' : h3.get? h'.objs.size = some o := ho
          have q : h'.objs.size < h3.objs.size := Heap.lt_size ho'
          exact absurd q (by rw [hsz']; exact Nat.not_lt.mpr (Nat.le_succ _))
      · show (capS cap σ).length = N'.length
        unfold capS
        rw [List.length_map, S.len]
  cases hf : codeAmong gpos ps.toList with
  | none =>
    refine wpAny_genexprCodeX hcode (cd.code hPs ht) (cd.tab hPs) hf fun c' h' tk hx hge hlt hco' _ htab' _ => ?_
    obtain ⟨o1, vs, f1, tf, fl, tg', inF, tx, tt, op, _, _, _, _, _, _, _, _, _, htr, _⟩ := hco'
    exact cont _ h' tk _ hx (Nat.le_trans hge (Nat.le_of_lt hlt)) htab'.2 ⟨_, rfl⟩ htr
  | some cv =>
    refine wpAny_genexprCode_hit hcode (cd.code hPs ht) hf ?_
    exact cont cv s2.heap s2.toks ps (Heap.ExtBut.refl _ _) (Nat.le_refl _) hPs ⟨#[], by simp⟩ ht
end
end Gx

set_option Elab.async false
set_option linter.all false
set_option maxRecDepth 100000
set_option maxHeartbeats 2000000
/-! the generator expression's turns; all(..). -/
namespace Gx
open PySem PySem.Spec PyProof.Rows L2 GxR GenW
section
variable {X : Cx} {elt tg iter : Expr} {scope : Scope} {gpos : Pos} {it : Addr} {fp : List Addr} {tn : Nat → Heap → Prop} {J : It} {τ : Type} {Pn : τ → List (Addr × Obj) → Prop} {Wk : Nat → Nat → τ → L2.St → Hp → Prop} {D : τ → Hp → Prop} {Yd : Nat → Nat → τ → V → L2.St → Hp → Prop} {Gd : Nat → Nat → Prop} {g : TG} {te : TE} {A : Around}
def GF (X : Cx) (Pn : τ → List (Addr × Obj) → Prop) (D : τ → Hp → Prop) : Nat → Shared → Shared → Prop := fun _ _ s1 => ∃ t pins σ H, Pn t pins ∧ Inv X pins σ H s1 ∧ D t H
def GR (X : Cx) (Pn : τ → List (Addr × Obj) → Prop) (D : τ → Hp → Prop) : GenEnd := fun n s₀ r s1 => ((r = .ok (.ret .none) ∨ r = .ok .next) ∧ GF X Pn D n s₀ s1) ∨ ∃ e, r = .error e ∧ (fun (_ : Value) (_ : Shared) => False) e s1
def GYd (X : Cx) (fp : List Addr) (tn : Nat → Heap → Prop) (Pn : τ → List (Addr × Obj) → Prop) (Wk : Nat → Nat → τ → L2.St → Hp → Prop) (Gd : Nat → Nat → Prop) (Yd : Nat → Nat → τ → V → L2.St → Hp → Prop) : Protocol := fun n s₀ v s1 kap =>
  ∃ i m t pins σ H x, m ≤ n ∧ RelV x v ∧ Pn t pins ∧ Inv X pins σ H s1 ∧ tn (i + 1) s1.heap ∧ (∀ b ∈ fp, H b = none) ∧ Gd i m ∧ Yd i m t x σ H ∧
    ∀ m' t' pins' s'', m' < m → Wk (i + 1) m' t' σ H → Pn t' pins' → Inv X pins' σ H s'' → tn (i + 1) s''.heap → kap (.send .none) s''
/-- what stays of the iterator's objects -/
structure FpSt (X : Cx) (fp : List Addr) (Pn : τ → List (Addr × Obj) → Prop) : Prop where
  loc : ∀ b ∈ fp, b ≠ X.env.locals ∧ b ∉ X.fs ∧ b ∈ X.ex ∧ ∀ x c, X.env.cells.lookup x = some c → c ≠ b
  pin : ∀ b ∈ fp, ∀ t pins, Pn t pins → ∀ p ∈ X.pn ++ pins, p.1 ≠ b
theorem FpSt.ok {H : Hp} {t : τ} {pins : List (Addr × Obj)} (F : FpSt X fp Pn) (hp : Pn t pins) (hn : ∀ b ∈ fp, H b = none) : ∀ b ∈ fp, FpOk X pins H b := fun b hb =>
  let ⟨a1, a2, a3, a4⟩ := F.loc b hb
  ⟨hn b hb, a1, a2, .inl a3, a4, F.pin b hb t pins hp⟩

theorem gx_loop (hA : A.over (.compLoop (.GeneratorExp elt [⟨tg, iter, [], 0⟩] scope gpos) 0 (.ref it) .none X.env) [] = X.A) (hc : X.calm = true) (hco : X.env.scope.isCoroutine = false) (hxe : ∀ e s, X.xe e s → False) (T : Turn X.prog X.w X.K tg J fp it tn) (F : FpSt X fp Pn)
    (hg : PG X tg g) (he : PE X elt te)
    (turn : ∀ i m t σ H, Wk i m t σ H → (J.stop i H ∧ D t H) ∨ (J.go i H ∧ Gd i m ∧ ∀ x H', J.yld i H x H' → g x σ H' fun σ2 H3 => te σ2 H3 fun v H4 => Yd i m t v σ2 H4)) :
    ∀ (n i m : Nat) (t : τ) (pins : List (Addr × Obj)) (σ : L2.St) (H : Hp) (s₀ s : Shared), m < n → Wk i m t σ H → Pn t pins → Inv X pins σ H s → tn i s.heap → (∀ b ∈ fp, H b = none) →
      Seg (model X.prog X.w) A (GR X Pn D) (GYd X fp tn Pn Wk Gd Yd) n s₀ (.compLoop (.GeneratorExp elt [⟨tg, iter, [], 0⟩] scope gpos) 0 (.ref it) .none X.env)
        ((model X.prog X.w).den (.compLoop (.GeneratorExp elt [⟨tg, iter, [], 0⟩] scope gpos) 0 (.ref it) .none X.env)) [] s := by
  intro n
  induction n with
  | zero => intro i m t pins σ H s₀ s hm; omega
  | succ n ih =>
    intro i m t pins σ H s₀ s hm w hp I st fr
    show Seg _ A _ _ _ s₀ _ ((compTurn (.GeneratorExp elt [⟨tg, iter, [], 0⟩] scope gpos) 0 (.ref it) .none X.env).onRaise (leaving X.env)) [] s
    rw [compTurn_gen, Sem.onRaise_eq_wrap]
    refine seg_bind_wrap (wpAny_standAt ?_)
    rcases turn i m t σ H w with ⟨stop, q⟩ | ⟨go, gd, step⟩
    · refine seg_bind_wrap ?_
      rw [hA]
      refine thn (T.done X rfl rfl rfl hc i pins s σ H _ I (F.ok hp fr) st stop) fun r s1 ⟨hr, I1⟩ => ?_
      subst hr
      exact seg_end (.ok .next) (.inl ⟨.inr rfl, t, pins, σ, H, hp, I1, q⟩)
    · refine seg_bind_wrap ?_
      rw [hA]
      refine thn (T.item X rfl rfl rfl hc i pins s σ H _ I (F.ok hp fr) st go) fun r s1 ⟨u, hr, h4⟩ => ?_
      subst hr
      refine seg_bind_wrap ?_
      rw [hA]
      refine thn h4 fun _ s5 ⟨x, H5, I5, r5, y5, st5, fr5⟩ => ?_
      have I5' := I5.pinned (F.ok hp fr5) (T.obj _ _ st5)
      refine seg_bind_wrap ?_
      rw [hA]
      refine wpAny_mono (hg.run _ s5 σ H5 x u _ I5' r5 (step x H5 y5)) (fun _ s6 ⟨σ6, H6, I6, q6⟩ => ?_) fun e s' z => (hxe e s' z).elim
      refine seg_bind_wrap (wpAny_of_eq (a := true) (by simp only [List.forIn_nil]) ?_)
      simp only [if_true]
      have hy : ∀ v, yieldOut X.env v = yieldValue v := fun v => by simp only [yieldOut, hco, Bool.false_eq_true, if_false]
      simp only [hy]
      rw [Sem.bind_eq_wrap', Sem.bind_eq_wrap', Sem.wrap_wrap, Sem.wrap_wrap]
      refine seg_wrap ?_
      rw [hA]
      refine wpAny_mono (he.run _ s6 σ6 H6 _ I6 q6) (fun y s7 ⟨v, H7, I7, r7, q7⟩ => ?_) fun e s' z => (hxe e s' z).elim
      have I8 := I7.unpinned
      have st7 : tn (i + 1) s7.heap := T.keep _ _ _ st5 fun b hb o e => (I7.pin (b, o) (List.mem_append_right _ (List.mem_append_right _ (mem_pinsAt hb e)))).1
      have fr7 : ∀ b ∈ fp, H7 b = none := fun b hb => by
        obtain ⟨o, e, d⟩ := T.obj _ _ st5 b hb
        exact (I7.pin (b, o) (List.mem_append_right _ (List.mem_append_right _ (mem_pinsAt hb e)))).2.1
      refine seg_at (seg_yield rfl rfl rfl ⟨i, m, t, pins, σ6, H7, v, by omega, r7, hp, I8, st7, fr7, gd, q7, fun m' t' pins' s'' hm' w' hp' I' st' => ?_⟩)
      exact seg_again rfl (ih (i + 1) m' t' pins' σ6 H7 s'' s'' (by omega) w' hp' I' st' fr7)

theorem gx_start (hA : A.over (.compLoop (.GeneratorExp elt [⟨tg, iter, [], 0⟩] scope gpos) 0 (.ref it) .none X.env) [] = X.A) (hA2 : A.over (.compStart (.GeneratorExp elt [⟨tg, iter, [], 0⟩] scope gpos) 0 (.ref it) .none X.env) [] = X.A) (hc : X.calm = true) (hco : X.env.scope.isCoroutine = false) (hxe : ∀ e s, X.xe e s → False) (T : Turn X.prog X.w X.K tg J fp it tn) (F : FpSt X fp Pn)
    (hg : PG X tg g) (he : PE X elt te)
    (turn : ∀ i m t σ H, Wk i m t σ H → (J.stop i H ∧ D t H) ∨ (J.go i H ∧ Gd i m ∧ ∀ x H', J.yld i H x H' → g x σ H' fun σ2 H3 => te σ2 H3 fun v H4 => Yd i m t v σ2 H4))
    (n m : Nat) (t : τ) (pins : List (Addr × Obj)) (σ : L2.St) (H : Hp) (s₀ s : Shared) (hm : m < n) (w : Wk 0 m t σ H) (hp : Pn t pins) (I : Inv X pins σ H s) (st : tn 0 s.heap) (fr : ∀ b ∈ fp, H b = none) :
      Seg (model X.prog X.w) A (GR X Pn D) (GYd X fp tn Pn Wk Gd Yd) n s₀ (.compStart (.GeneratorExp elt [⟨tg, iter, [], 0⟩] scope gpos) 0 (.ref it) .none X.env)
        ((model X.prog X.w).den (.compStart (.GeneratorExp elt [⟨tg, iter, [], 0⟩] scope gpos) 0 (.ref it) .none X.env)) [] s := by
  have loop := gx_loop (elt := elt) (iter := iter) (scope := scope) (gpos := gpos) hA hc hco hxe T F hg he turn n 0 m t pins σ H s₀ s hm w hp I st fr
  show Seg _ A _ _ _ s₀ _ ((compStart (.GeneratorExp elt [⟨tg, iter, [], 0⟩] scope gpos) 0 (.ref it) .none X.env).onRaise (leaving X.env)) [] s
  unfold compStart
  rw [Sem.onRaise_eq_wrap]
  show Seg _ A _ _ _ s₀ _ ((ask >>= _).wrap _ _ _ _) [] s
  refine seg_bind_wrap (wpAny_askSetting ?_)
  split
  · exact seg_again rfl loop
  · first
      | exact seg_bind_wrap (wpAny_rule (seg_bind_wrap (wpAny_standAt (seg_bind_wrap (T.self _ 0 s _ _ st (seg_again rfl loop))))))
      | (refine seg_bind_wrap (wpAny_rule ?_); show Seg _ A _ _ _ s₀ _ ((standAt iter.pos >>= _).wrap _ _ _ _) [] s; exact seg_bind_wrap (wpAny_standAt (seg_bind_wrap (T.self _ 0 s _ _ st (seg_again rfl loop)))))

/-- the generators' states changed -/
theorem inv_gens {pins : List (Addr × Obj)} {σ : L2.St} {H : Hp} {s : Shared} {G : Array GenState} {h' : Heap} (I : Inv X pins σ H s) (hb : AllBare G) (hk : ∀ b o, s.heap.get? b = some o → h'.get? b = some o) : Inv X pins σ H { s with gens := G, heap := h' } :=
  I.call' (ch := []) rfl (Un.kept hk) (I.hok.kept hk) hb fun b z => by simp at z
end

section
variable {X : Cx} {fp : List Addr} {tn : Nat → Heap → Prop} {n0 : Nat} {Wk : Nat → L2.St → Hp → Prop} {Qf : Bool → Hp → Prop} {a : Addr} {gn : Nat} {B : Around}
def noPins : Unit → List (Addr × Obj) → Prop := fun _ pins => pins = []
def gdN (n0 : Nat) : Nat → Nat → Prop := fun i m => i < n0 ∧ m = n0 - i
def wkAll (n0 : Nat) (Wk : Nat → L2.St → Hp → Prop) : Nat → Nat → Unit → L2.St → Hp → Prop := fun i m _ σ H => m = n0 - i ∧ i ≤ n0 ∧ Wk i σ H
def ydAll (Wk : Nat → L2.St → Hp → Prop) (Qf : Bool → Hp → Prop) : Nat → Nat → Unit → V → L2.St → Hp → Prop := fun i m _ v σ H => (v = .bl true ∧ Wk (i + 1) σ H) ∨ (v = .bl false ∧ Qf false H)
def isGenH (a : Addr) (gn : Nat) (X : Cx) : Prop := ∀ pins σ H s, Inv X pins σ H s → s.heap.IsGen a gn
theorem all_drain (hh : B.handled = none) (hd : B.depth < recursionLimit) (hig : isGenH a gn X) :
    ∀ (n : Nat) (s : Shared), s.heap.IsGen a gn → s.heap.NoLimit →
      (∃ gs, s.gens[gn]? = some gs ∧ gs.Goes (model X.prog X.w) B.in1.in1 (GR X noPins fun _ H => Qf true H) (GYd X fp tn noPins (wkAll n0 Wk) (gdN n0) (ydAll Wk Qf)) n (.send .none) (s.setGen gn .running)) →
      codeAny (model X.prog X.w) B (.builtin "all.loop" ⟨[.ref a], []⟩) (fun r s' => ∃ b σ H, r = .ok (.ret (.bool b)) ∧ Inv X [] σ H s' ∧ Qf b H) s := by
  intro n
  induction n with
  | zero =>
    intro s hg hl ⟨gs, hgs, hgo⟩
    have hgl : gn < s.gens.size := (Array.getElem?_eq_some_iff.mp hgs).1
    refine codeAny_builtin F.entry_all_loop ?_
    rw [Around.under_plainId F.plain_all_loop _]
    show wpAny _ B.in1 (pyNext (.ref a) >>= _) _ _ s
    refine wpAny_bind (wpAny_gsz (n := gn + 1) hgl (next_genG (A := B.in1) hh hl hd hg hgs hgo (fun v s₁ gs' hbare hv => ?_) (fun s₁ hp h' hk => ?_) fun e s₁ he => he.elim))
    · intro hsz
      obtain ⟨i, m, t, pins, σ, H, x, hm, rv, hp, I1, st, fr, ⟨hi0, em⟩, yd, hk⟩ := hv
      obtain rfl : pins = [] := hp
      rcases yd with ⟨rfl, w'⟩ | ⟨rfl, q⟩
      · omega
      · obtain rfl : v = .bool false := rv
        refine wpAny_bind (wpAny_holding (wpAny_truthy_bool ?_))
        refine wpAny_bind (wpAny_letGo ?_)
        simp only [Bool.false_eq_true, if_false]
        refine wpAny_bind (wpAny_rule (wpAny_pure ?_))
        exact ⟨false, σ, H, rfl, inv_gens I1 (allBare_setGen I1.bare hbare) (fun _ _ e => e), q⟩
    · intro hsz
      obtain ⟨t, pins, σ, H, hp, I1, q⟩ := hp
      obtain rfl : pins = [] := hp
      refine wpAny_bind (wpAny_rule (wpAny_pure ?_))
      exact ⟨true, σ, H, rfl, inv_gens (s := s₁) (G := (s₁.setGen gn .finished).gens) (h' := h') I1 (allBare_setGen I1.bare rfl) hk, q⟩
  | succ n ih =>
    intro s hg hl ⟨gs, hgs, hgo⟩
    have hgl : gn < s.gens.size := (Array.getElem?_eq_some_iff.mp hgs).1
    refine codeAny_builtin F.entry_all_loop ?_
    rw [Around.under_plainId F.plain_all_loop _]
    show wpAny _ B.in1 (pyNext (.ref a) >>= _) _ _ s
    refine wpAny_bind (wpAny_gsz (n := gn + 1) hgl (next_genG (A := B.in1) hh hl hd hg hgs hgo (fun v s₁ gs' hbare hv => ?_) (fun s₁ hp h' hk => ?_) fun e s₁ he => he.elim))
    · intro hsz
      obtain ⟨i, m, t, pins, σ, H, x, hm, rv, hp, I1, st, fr, ⟨hi0, em⟩, yd, hk⟩ := hv
      obtain rfl : pins = [] := hp
      have I2 : Inv X [] σ H (s₁.setGen gn gs') := inv_gens I1 (allBare_setGen I1.bare hbare) (fun _ _ e => e)
      rcases yd with ⟨rfl, w'⟩ | ⟨rfl, q⟩
      · obtain rfl : v = .bool true := rv
        refine wpAny_bind (wpAny_holding (wpAny_truthy_bool ?_))
        refine wpAny_bind (wpAny_letGo ?_)
        simp only [if_true]
        refine wpAny_pure ⟨plainId_quiet F.plain_all_loop _, ih _ (hig _ _ _ _ I2) I2.nolimit ⟨gs', ?_, ?_⟩⟩
        · refine setGen_at ?_
          have q : (s₁.setGen gn gs').gens.size = s₁.gens.size := setGen_size _ _ _
          have hsz' : gn + 1 ≤ (s₁.setGen gn gs').gens.size := hsz
          omega
        · exact hk (n0 - (i + 1)) () [] _ (by omega) ⟨rfl, hi0, w'⟩ rfl (inv_gens I2 (allBare_setGen I2.bare rfl) (fun _ _ e => e)) st
      · obtain rfl : v = .bool false := rv
        refine wpAny_bind (wpAny_holding (wpAny_truthy_bool ?_))
        refine wpAny_bind (wpAny_letGo ?_)
        simp only [Bool.false_eq_true, if_false]
        refine wpAny_bind (wpAny_rule (wpAny_pure ?_))
        exact ⟨false, σ, H, rfl, I2, q⟩
    · intro hsz
      obtain ⟨t, pins, σ, H, hp, I1, q⟩ := hp
      obtain rfl : pins = [] := hp
      refine wpAny_bind (wpAny_rule (wpAny_pure ?_))
      exact ⟨true, σ, H, rfl, inv_gens (s := s₁) (G := (s₁.setGen gn .finished).gens) (h' := h') I1 (allBare_setGen I1.bare rfl) hk, q⟩
end

/-- all(te for g in wi) -/
def tAllG (P : Addr) (cap : List (Option Nat)) (wi : TI) (g : TG) (te : TE) : TE := fun σ H Q => wi σ H fun J H1 => TabG H1 P ∧ ∀ H2, Tabbed P H1 H2 → ∃ (n0 : Nat) (Wk : Nat → L2.St → Hp → Prop), Wk 0 (capS cap σ) H2 ∧
  ∀ i σ' H', i ≤ n0 → Wk i σ' H' → (J.stop i H' ∧ Q (.bl true) H') ∨ (J.go i H' ∧ i < n0 ∧ ∀ x H3, J.yld i H' x H3 → g x σ' H3 fun σ2 H4 => te σ2 H4 fun v H5 => (v = .bl true ∧ Wk (i + 1) σ2 H5) ∨ (v = .bl false ∧ Q (.bl false) H5))
section
variable {X : Cx} {elt tg iter : Expr} {scope : Scope} {gpos : Pos}
/-- the around of an element -/
abbrev elA (A : Around) (E : Expr) (it : Addr) (cenv : Env) : Around := A.over (.compLoop E 0 (.ref it) .none cenv) []
theorem elA_room {A : Around} {cl : List Comprehension} {it : Addr} {cenv : Env} {k : Nat} (hr : Room (k + 1) A) : Room k (elA A.in1.in1 (.GeneratorExp elt cl scope gpos) it cenv) :=
  ⟨hr.hd, by have := hr.dp; have e : (elA A.in1.in1 (.GeneratorExp elt cl scope gpos) it cenv).depth ≤ A.depth + 1 := Nat.le_of_eq rfl; omega, by have := hr.un; have e : (elA A.in1.in1 (.GeneratorExp elt cl scope gpos) it cenv).units ≤ A.units + 5 := Nat.le_of_eq rfl; omega⟩
theorem pe_allG {c P : Addr} {p pos : Pos} {wi : TI} {g : TG} {te : TE} {N' : List Str} {cap : List (Option Nat)} {k : Nat}
    (hr : Room (k + 1) X.A) (hgl : Gl X "all") (hm : X.mg "all" = none) (hb : bootBuiltins "all" = some (.builtin "all")) (TB : TabB X.base X.mg c P) (hcode : X.env.code = .ref c) (S : GSc X.N X.env.scope scope N' cap) (hi : PI X tg iter wi)
    (hg : ∀ s H C code A fp pn, PG (X.gen s H (cenvOf X scope C code) A N' fp pn) tg g) (he : ∀ s H C code A fp pn, Room k A → PE (X.gen s H (cenvOf X scope C code) A N' fp pn) elt te)
    (hs : ∀ v, genFold iter X.env v = pure v)
    (hse : starEach [.GeneratorExp elt [⟨tg, iter, [], 0⟩] scope gpos] X.env = (false, eval (.GeneratorExp elt [⟨tg, iter, [], 0⟩] scope gpos) X.env) :: starEach [] X.env := by rfl) :
    PE X (.Call (.Name "all" p) [.GeneratorExp elt [⟨tg, iter, [], 0⟩] scope gpos] [] pos) (tAllG P cap wi g te) := by
  refine ⟨fun pins s σ H Q I h => ?_⟩
  refine wpAny_Call_Name_kw (ld_blt I hgl hm hb ?_)
  refine PyProof.Rows.callWith_builtin1 ?_ hse (by rfl)
  rw [hse]
  show wpAny _ _ (spliced ((false, eval (.GeneratorExp elt [⟨tg, iter, [], 0⟩] scope gpos) X.env) :: backTo pos (starEach [] X.env))) _ _ s
  refine Calls.spliced_cons (gx_make (k := k + 1) hr TB hcode S hi hs I h fun J H2 s4 code it fp tn a gn gobj s5 G hR => ?_)
  refine Calls.spliced_nil ?_
  obtain ⟨n0, Wk, w0, turn⟩ := hR
  have hAf : X.A.frames = some X.stack := I.ok.frames
  have I5 := G.inv5 (elA X.A.in1.in1 (.GeneratorExp elt [⟨tg, iter, [], 0⟩] scope gpos) it (cenvOf X scope s4.heap.objs.size code)) hr.hd (by
    show pushEnvs [cenvOf X scope s4.heap.objs.size code] (pushEnvs [] X.A.frames) = _
    rw [hAf] <;> rfl)
  refine call_function_tree F.kind_all F.plain_all F.entry_all (F.args_all1 _) ?_
  unfold Builtin.«all»
  refine wpAny_bind (m := oneArg "all" _) (wpAny_pure ?_)
  have hig : isGenH a gn (X.gen s4 H2 (cenvOf X scope s4.heap.objs.size code) (elA X.A.in1.in1 (.GeneratorExp elt [⟨tg, iter, [], 0⟩] scope gpos) it (cenvOf X scope s4.heap.objs.size code)) N' fp [(a, gobj)]) := fun pins' σ' H' s' I' =>
    G.isg _ (I'.pin (a, gobj) (List.mem_append_left _ (List.mem_singleton.mpr rfl))).1
  refine wpAny_bind (wpAny_pyIter_gen (hig _ _ _ _ I5) ?_)
  refine wpAny_pure ⟨plainId_quiet F.plain_all_loop _, ?_⟩
  have Fs : FpSt (X.gen s4 H2 (cenvOf X scope s4.heap.objs.size code) (elA X.A.in1.in1 (.GeneratorExp elt [⟨tg, iter, [], 0⟩] scope gpos) it (cenvOf X scope s4.heap.objs.size code)) N' fp [(a, gobj)]) fp noPins := by
    refine ⟨fun b hb => ⟨(I5.ok.exf b hb).1, I5.ok.exfs b hb, hb, (I5.ok.exf b hb).2⟩, fun b hb t pins' hp p hp' z => ?_⟩
    obtain rfl : pins' = [] := hp
    have e : p = (a, gobj) := by simpa using hp'
    subst e
    have l1 := (G.fpOk b hb).2
    rw [← z] at l1
    exact absurd (Nat.lt_trans G.above l1) (Nat.lt_irrefl _)
  refine codeAny_mono (all_drain (Qf := fun b H => Q (.bl b) H) (n0 := n0) (Wk := Wk) (fp := fp) (tn := tn) hr.hd (by have := hr.dp; omega) hig (n0 + 1) s5 (hig _ _ _ _ I5) I5.nolimit ⟨_, G.gen, rfl, ?_⟩) (fun r s' hq => ?_)
  · refine gx_start (X := X.gen s4 H2 (cenvOf X scope s4.heap.objs.size code) (elA X.A.in1.in1 (.GeneratorExp elt [⟨tg, iter, [], 0⟩] scope gpos) it (cenvOf X scope s4.heap.objs.size code)) N' fp [(a, gobj)]) (A := X.A.in1.in1) rfl rfl rfl S.co (fun e s z => z) G.turn Fs (hg _ _ _ _ _ _ _) (he _ _ _ _ _ _ _ (elA_room hr)) (fun i m t σ' H' w' => (turn i σ' H' w'.2.1 w'.2.2).imp id fun y => ⟨y.1, ⟨y.2.1, w'.1⟩, y.2.2⟩) (n0 + 1) n0 () [] (capS cap σ) H2 _ _ (Nat.lt_succ_self _) ⟨rfl, Nat.zero_le _, w0⟩ rfl (inv_gens I5 (allBare_setGen I5.bare rfl) (fun _ _ e => e)) G.tn0 (fun b hb => (G.fpOk b hb).1.1)
  · obtain ⟨b, σ', H', rfl, J1, q⟩ := hq
    exact ⟨.bl b, H', G.inv4.call' (ch := fp) J1.os J1.base J1.hok J1.bare (fun b hb => let ⟨_, f1, _, f3, f4, f5⟩ := (G.fpOk b hb).1; ⟨f3, f1, f4, f5⟩), rfl, q⟩
end
end Gx

set_option Elab.async false
set_option linter.all false
set_option maxRecDepth 100000
set_option maxHeartbeats 2000000
/-! tuple(..) of a generator expression. -/
namespace Gx
open PySem PySem.Spec PyProof.Rows L2 GxR GenW
section
variable {X : Cx} {fp : List Addr} {tn : Nat → Heap → Prop} {n0 : Nat} {Wk : Nat → List V → L2.St → Hp → Prop} {D : List V → Hp → Prop} {a S : Addr} {gn : Nat} {B : Around} {E : Value → Shared → Prop}
def pinS (S : Addr) : List V → List (Addr × Obj) → Prop := fun ys pins => ∃ (acc : Array Value) (c : Nat), Vals ys acc.toList ∧ pins = [(S, lstObj acc c)]
def wkTup (n0 : Nat) (Wk : Nat → List V → L2.St → Hp → Prop) : Nat → Nat → List V → L2.St → Hp → Prop := fun i m ys σ H => m = n0 - i ∧ i ≤ n0 ∧ Wk i ys σ H
def ydTup (Wk : Nat → List V → L2.St → Hp → Prop) : Nat → Nat → List V → V → L2.St → Hp → Prop := fun i m ys v σ H => ys.length < sizeLine ∧ Wk (i + 1) (ys ++ [v]) σ H
theorem tup_drain (hh : B.handled = none) (hd : B.depth < recursionLimit) (hig : isGenH a gn X) (hA : Apart X S) (hpn : ∀ p ∈ X.pn, p.1 ≠ S) (hkp : ∀ i h h', tn i h → (∀ b ∈ fp, ∀ o, h.get? b = some o → h'.get? b = some o) → tn i h') (hSf : S ∉ fp) :
    ∀ (n : Nat) (s : Shared), s.heap.IsGen a gn → s.heap.NoLimit →
      (∃ gs, s.gens[gn]? = some gs ∧ gs.Goes (model X.prog X.w) B.in1.in1 (Gx.GR X (pinS S) D) (GYd X fp tn (pinS S) (wkTup n0 Wk) (gdN n0) (ydTup Wk)) n (.send .none) (s.setGen gn .running)) →
      codeAny (model X.prog X.w) B (.builtin "list.extend.loop" ⟨[.ref S, .ref a, .ref S], []⟩) (fun r s' => ∃ ys σ H acc c, r = .ok (.ret (.ref S)) ∧ Vals ys acc.toList ∧ Inv X [(S, lstObj acc c)] σ H s' ∧ D ys H) s := by
  intro n
  induction n with
  | zero =>
    intro s hg hl ⟨gs, hgs, hgo⟩
    refine codeAny_builtin F.entry_extend_loop ?_
    rw [Around.under_plainId F.plain_extend_loop _]
    show wpAny _ B.in1 (pyNext (.ref a) >>= _) _ _ s
    refine wpAny_bind (next_genG (A := B.in1) hh hl hd hg hgs hgo (fun v s₁ gs' hbare hv => ?_) (fun s₁ hp h' hk => ?_) fun e s₁ he => he.elim)
    · obtain ⟨i, m, t, pins, σ, H, x, hm, rv, hp, I1, st, fr, ⟨hi0, em⟩, yd, hk⟩ := hv
      omega
    · obtain ⟨t, pins, σ, H, ⟨acc, c, hv, rfl⟩, I1, q⟩ := hp
      refine wpAny_pure ?_
      exact ⟨t, σ, H, acc, c, rfl, hv, inv_gens (s := s₁) (G := (s₁.setGen gn .finished).gens) (h' := h') I1 (allBare_setGen I1.bare rfl) hk, q⟩
  | succ n ih =>
    intro s hg hl ⟨gs, hgs, hgo⟩
    have hgl : gn < s.gens.size := (Array.getElem?_eq_some_iff.mp hgs).1
    refine codeAny_builtin F.entry_extend_loop ?_
    rw [Around.under_plainId F.plain_extend_loop _]
    show wpAny _ B.in1 (pyNext (.ref a) >>= _) _ _ s
    refine wpAny_bind (wpAny_gsz (n := gn + 1) hgl (next_genG (A := B.in1) hh hl hd hg hgs hgo (fun v s₁ gs' hbare hv => ?_) (fun s₁ hp h' hk => ?_) fun e s₁ he => he.elim))
    · intro hsz
      obtain ⟨i, m, ys, pins, σ, H, x, hm, rv, ⟨acc, c, hv, rfl⟩, I1, st, fr, ⟨hi0, em⟩, ⟨hlen, w'⟩, hk⟩ := hv
      have hS1 : s₁.heap.get? S = some (lstObj acc c) := (I1.pin (S, lstObj acc c) (List.mem_append_right _ (List.mem_singleton.mpr rfl))).1
      have hasz : acc.size < sizeLine := by
        have e1 := hv.length
        have e2 : acc.toList.length = acc.size := by simp
        omega
      show wpAny _ B.in1 (updateSeq S (·.push v) >>= _) _ _ _
      refine wpAny_bind ?_
      refine wpAny_updateSeq hS1 rfl (wpAny_pure ⟨plainId_quiet F.plain_extend_loop _, ?_⟩) (Nat.le_of_lt hasz) (by show (acc.push v).size ≤ sizeLine + 1; rw [Array.size_push]; omega)
      have G1 : GI X S [] ys σ H s₁ := ⟨acc, c, hv, I1⟩
      have woke : ∀ G : Array GenState, AllBare G → GI X S [] (ys ++ [x]) σ H { s₁ with gens := G, heap := s₁.heap.update S (Obj.mapSeq (·.push v)) } := fun G hG =>
        GI.woken hpn (fun p hp => by simp at hp) hA G1 rv (Slept.push hS1 hG)
      have b1 := allBare_setGen (g := gn) I1.bare hbare
      obtain ⟨acc2, c2, hv2, I2⟩ := woke _ b1
      refine ih _ (hig _ _ _ _ I2) I2.nolimit ⟨gs', ?_, ?_⟩
      · refine setGen_at (s := s₁) ?_
        have q : (s₁.setGen gn gs').gens.size = s₁.gens.size := setGen_size _ _ _
        have hsz' : gn + 1 ≤ (s₁.setGen gn gs').gens.size := hsz
        omega
      · obtain ⟨acc3, c3, hv3, I3⟩ := woke _ (allBare_setGen (s := s₁.setGen gn gs') (g := gn) (x := .running) b1 rfl)
        exact hk (n0 - (i + 1)) (ys ++ [x]) [(S, lstObj acc3 c3)] _ (by omega) ⟨rfl, hi0, w'⟩ ⟨acc3, c3, hv3, rfl⟩ I3 (hkp _ _ _ st fun b hb o e => (Heap.get?_update_other _ _ (fun z => hSf (by rw [z]; exact hb))).trans e)
    · intro hsz
      obtain ⟨t, pins, σ, H, ⟨acc, c, hv, rfl⟩, I1, q⟩ := hp
      refine wpAny_pure ?_
      exact ⟨t, σ, H, acc, c, rfl, hv, inv_gens (s := s₁) (G := (s₁.setGen gn .finished).gens) (h' := h') I1 (allBare_setGen I1.bare rfl) hk, q⟩
end

/-- what collects the generator's items -/
theorem collect_genG {P : Program} {w : World} {A : Around} {E : Value → Shared → Prop} {a : Addr} {gn : Nat} {s : Shared} {Q : List Value → Shared → Prop} (hg : s.heap.IsGen a gn)
    (h : ∀ hS c, (∀ b o, s.heap.get? b = some o → hS.get? b = some o) → hS.get? s.heap.objs.size = some (lstObj #[] c) →
      codeAny (model P w) A (.builtin "list.extend.loop" ⟨[.ref s.heap.objs.size, .ref a, .ref s.heap.objs.size], []⟩) (fun r s' => r = .ok (.ret (.ref s.heap.objs.size)) ∧ ∃ acc c', s'.heap.get? s.heap.objs.size = some (lstObj acc c') ∧ Q acc.toList s') { s with heap := hS }) :
    wpAny (model P w) A (collect (.ref a)) Q E s := by
  have hSI : s.heap.objs.size ≠ a := fun e => by
    obtain ⟨o, _, _, ho, _⟩ := hg
    have := Heap.lt_size ho
    rw [← e] at this
    exact absurd this (Nat.lt_irrefl _)
  unfold collect
  refine wpAny_bind (wpAny_runValue (codeAny_builtin F.entry_proto_collect ?_))
  rw [Around.under_plainId F.plain_proto_collect _]
  show wpAny _ A.in1 (newList [] >>= fun l => again (.builtin "list.__iadd__" ⟨[l, .ref a], []⟩)) _ _ s
  refine wpAny_bind (wpAny_newObj_type ?_)
  refine wpAny_pure ⟨plainId_quiet F.plain_list_iadd _, codeAny_builtin F.entry_list_iadd ?_⟩
  rw [Around.under_plainId F.plain_list_iadd _]
  have k1 : ∀ b o, s.heap.get? b = some o → (s.heap.push { cls := .type "list", data := .seq ([] : List Value).toArray }).get? b = some o := fun b o e => Heap.get?_push_of_some _ e
  have gty : ∀ {h : Heap}, (∀ b o, s.heap.get? b = some o → h.get? b = some o) → h.IsGen a gn := fun {h} q => hg.keeps q
  show wpAny _ A.in1 (Builtin.List.listExtendWith (.ref s.heap.objs.size) (.ref a) (.ref s.heap.objs.size)) _ _ _
  unfold Builtin.List.listExtendWith
  refine wpAny_bind (wpAny_typeOf (Heap.IsGen.typeIs (s := { s with heap := _ }) (gty k1)) ?_)
  have h1 : Builtin.List.listSameRef (.ref s.heap.objs.size) (.ref a) = false := by simp [Builtin.List.listSameRef, hSI]
  have h2 : (Value.type "generator" == Value.type "list") = false := by decide
  have h3 : (Value.type "generator" == Value.type "tuple") = false := by decide
  simp only [h1, h2, h3, Bool.or_false, Bool.false_eq_true, if_false]
  refine wpAny_bind (wpAny_pyIter_gen (s := { s with heap := _ }) (gty k1) ?_)
  refine wpAny_bind (wpAny_holding ?_)
  unfold Builtin.List.listLengthHint
  refine wpAny_bind (wpAny_specialOf (Heap.IsGen.typeIs (s := { s with heap := _ }) (gty k1)) F.gen_no_len ?_)
  show wpAny _ A.in1 (specialOf (Value.ref a) (Str.ofString "__length_hint__") >>= _) _ _ _
  refine wpAny_bind (wpAny_specialOf (Heap.IsGen.typeIs (s := { s with heap := _ }) (gty k1)) F.gen_no_hint ?_)
  refine wpAny_pure ?_
  show wpAny _ A.in1 (rule "list.extend.makes-room" >>= fun _ => Builtin.List.listTouch (.ref s.heap.objs.size) >>= fun _ =>
    again (.builtin "list.extend.loop" ⟨[.ref s.heap.objs.size, .ref a, .ref s.heap.objs.size], []⟩)) _ _ _
  refine wpAny_bind (wpAny_rule ?_)
  have hS₁ : (s.heap.push { cls := .type "list", data := .seq ([] : List Value).toArray }).get? s.heap.objs.size = some { cls := .type "list", data := .seq ([] : List Value).toArray } := Heap.get?_push_size _ rfl
  refine wpAny_bind ?_
  show wpAny _ A.in1 (updateSeq s.heap.objs.size (·.push .none) >>= fun _ => updateSeq s.heap.objs.size (·.pop)) _ _ _
  refine wpAny_bind (wpAny_updateSeq hS₁ rfl ?_)
  have hS₂ := Heap.get?_update_self (Obj.mapSeq (·.push Value.none)) hS₁ rfl
  refine wpAny_updateSeq (hz := by seq_fits) hS₂ rfl ?_
  have hS₃ := Heap.get?_update_self (Obj.mapSeq (·.pop)) hS₂ rfl
  have oth : ∀ b o, s.heap.get? b = some o →
      (((s.heap.push { cls := .type "list", data := .seq ([] : List Value).toArray }).update s.heap.objs.size (Obj.mapSeq (·.push Value.none))).update s.heap.objs.size (Obj.mapSeq (·.pop))).get? b = some o :=
    fun b o e => (Heap.get?_update_other _ _ (Ne.symm (Nat.ne_of_lt (Heap.lt_size e)))).trans ((Heap.get?_update_other _ _ (Ne.symm (Nat.ne_of_lt (Heap.lt_size e)))).trans (k1 b o e))
  refine wpAny_pure ⟨plainId_quiet F.plain_extend_loop _, codeAny_mono (h _ _ oth hS₃) fun r s' hq => ?_⟩
  obtain ⟨rfl, acc, c', hS', q⟩ := hq
  show wpAny _ A (load s.heap.objs.size >>= _) _ _ s'
  refine wpAny_bind (wpAny_load hS' ?_)
  exact wpAny_pure q

theorem code_tuple_new_genG {P : Program} {w : World} {A : Around} {E : Value → Shared → Prop} {a : Addr} {gn : Nat} {s : Shared} {Q₁ : Value → Shared → Prop} (hg : s.heap.IsGen a gn)
    (h : ∀ hS c, (∀ b o, s.heap.get? b = some o → hS.get? b = some o) → hS.get? s.heap.objs.size = some (lstObj #[] c) →
      codeAny (model P w) A.in1 (.builtin "list.extend.loop" ⟨[.ref s.heap.objs.size, .ref a, .ref s.heap.objs.size], []⟩) (fun r s' => r = .ok (.ret (.ref s.heap.objs.size)) ∧ ∃ acc c', s'.heap.get? s.heap.objs.size = some (lstObj acc c') ∧ acc.size ≤ sizeLine ∧ Q₁ (.ref s'.heap.objs.size) { s' with heap := s'.heap.push { cls := .type "tuple", data := .seq acc } }) { s with heap := hS }) :
    codeAny (model P w) A (.call (.builtin "tuple.__new__") ⟨[.type "tuple", .ref a], []⟩) (wants Q₁ E) s := by
  refine codeAny_of_tree ?_
  show wpAny _ A.in1 (do checkBuiltinCall "tuple.__new__" ⟨[.type "tuple", .ref a], []⟩; again (.builtin "tuple.__new__" ⟨[.type "tuple", .ref a], []⟩)) _ _ s
  refine wpAny_bind (wpAny_of_eq (F.newCall_tuple_1 _) (wpAny_pure ⟨plainId_quiet F.plain_tuple_new _, codeAny_builtin F.entry_tuple_new ?_⟩))
  rw [Around.under_plainId F.plain_tuple_new _]
  have hsub := sub_tuple_self
  have hinit := init_tuple_lookup
  have hmh := madeHere_tuple
  have hTI : s.TypeIs (.ref a) "generator" := hg.typeIs
  wp_walk using wpAny_typeOf hTI, collect_genG (P := P) (w := w) hg
  intro hS c hk hS'
  refine codeAny_mono (h hS c hk hS') fun r s' hq => ?_
  obtain ⟨e, acc, c', q1, q2, q3⟩ := hq
  refine ⟨e, acc, c', q1, ?_⟩
  show wpAny _ _ (Builtin.Tuple.tupleExact acc.toList.toArray >>= fun v => ret v) _ _ _
  unfold Builtin.Tuple.tupleExact
  have e2 : acc.toList.toArray = acc := by simp
  rw [e2]
  refine wpAny_bind (wpAny_newObj_type ?_ (by show acc.size ≤ sizeLine; exact q2))
  exact wpAny_pure q3

/-- tuple(te for g in wi) -/
def tTupG (P : Addr) (cap : List (Option Nat)) (wi : TI) (g : TG) (te : TE) : TE := fun σ H Q => wi σ H fun J H1 => TabG H1 P ∧ ∀ H2, Tabbed P H1 H2 → ∃ (n0 : Nat) (Wk : Nat → List V → L2.St → Hp → Prop), Wk 0 [] (capS cap σ) H2 ∧
  ∀ i ys σ' H', i ≤ n0 → Wk i ys σ' H' → (J.stop i H' ∧ ys.length ≤ sizeLine ∧ ∀ p, H' p = none → Q (.ref p) (upd H' p (.tup ys))) ∨ (J.go i H' ∧ i < n0 ∧ ∀ x H3, J.yld i H' x H3 → g x σ' H3 fun σ2 H4 => te σ2 H4 fun v H5 => ys.length < sizeLine ∧ Wk (i + 1) (ys ++ [v]) σ2 H5)
section
variable {X : Cx} {elt tg iter : Expr} {scope : Scope} {gpos : Pos}
theorem elA_room4 {A : Around} {cl : List Comprehension} {it : Addr} {cenv : Env} {k : Nat} (hr : Room (k + 1) A) : Room k (elA A.in1.in1.in1.in1 (.GeneratorExp elt cl scope gpos) it cenv) :=
  ⟨hr.hd, by have := hr.dp; have e : (elA A.in1.in1.in1.in1 (.GeneratorExp elt cl scope gpos) it cenv).depth ≤ A.depth + 1 := Nat.le_of_eq rfl; omega, by have := hr.un; have e : (elA A.in1.in1.in1.in1 (.GeneratorExp elt cl scope gpos) it cenv).units ≤ A.units + 7 := Nat.le_of_eq rfl; omega⟩
theorem pe_tupG {c P : Addr} {p pos : Pos} {wi : TI} {g : TG} {te : TE} {N' : List Str} {cap : List (Option Nat)} {k : Nat}
    (hr : Room (k + 1) X.A) (hgl : Gl X "tuple") (hm : X.mg "tuple" = none) (hb : bootBuiltins "tuple" = some (.type "tuple")) (TB : TabB X.base X.mg c P) (hcode : X.env.code = .ref c) (S : GSc X.N X.env.scope scope N' cap) (hi : PI X tg iter wi)
    (hg : ∀ s H C code A fp pn, PG (X.gen s H (cenvOf X scope C code) A N' fp pn) tg g) (he : ∀ s H C code A fp pn, Room k A → PE (X.gen s H (cenvOf X scope C code) A N' fp pn) elt te)
    (hs : ∀ v, genFold iter X.env v = pure v)
    (hse : starEach [.GeneratorExp elt [⟨tg, iter, [], 0⟩] scope gpos] X.env = (false, eval (.GeneratorExp elt [⟨tg, iter, [], 0⟩] scope gpos) X.env) :: starEach [] X.env := by rfl) :
    PE X (.Call (.Name "tuple" p) [.GeneratorExp elt [⟨tg, iter, [], 0⟩] scope gpos] [] pos) (tTupG P cap wi g te) := by
  refine ⟨fun pins s σ H Q I h => ?_⟩
  refine wpAny_Call_Name_kw (ld_blt I hgl hm hb ?_)
  refine PyProof.Rows.callWith_type1 ?_ hse (by rfl)
  rw [hse]
  show wpAny _ _ (spliced ((false, eval (.GeneratorExp elt [⟨tg, iter, [], 0⟩] scope gpos) X.env) :: backTo pos (starEach [] X.env))) _ _ s
  refine Calls.spliced_cons (gx_make (k := k + 1) hr TB hcode S hi hs I h fun J H2 s4 code it fp tn a gn gobj s5 G hR => ?_)
  refine Calls.spliced_nil ?_
  obtain ⟨n0, Wk, w0, turn⟩ := hR
  have hAf : X.A.frames = some X.stack := I.ok.frames
  have I5 := G.inv5 (elA X.A.in1.in1.in1.in1 (.GeneratorExp elt [⟨tg, iter, [], 0⟩] scope gpos) it (cenvOf X scope s4.heap.objs.size code)) hr.hd (by
    show pushEnvs [cenvOf X scope s4.heap.objs.size code] (pushEnvs [] X.A.frames) = _
    rw [hAf] <;> rfl)
  generalize hX' : X.gen s4 H2 (cenvOf X scope s4.heap.objs.size code) (elA X.A.in1.in1.in1.in1 (.GeneratorExp elt [⟨tg, iter, [], 0⟩] scope gpos) it (cenvOf X scope s4.heap.objs.size code)) N' fp [(a, gobj)] = X' at I5
  have hig : isGenH a gn X' := fun pins' σ' H' s' I' => by
    subst hX'
    exact G.isg _ (I'.pin (a, gobj) (List.mem_append_left _ (List.mem_singleton.mpr rfl))).1
  have hgen := hig _ _ _ _ I5
  have hlt5 : ∀ b ∈ fp, b < s5.heap.objs.size := fun b hb => by
    obtain ⟨o, ho, _⟩ := G.turn.obj _ _ G.tn0 b hb
    exact Heap.lt_size ho
  have halt : a < s5.heap.objs.size := by
    obtain ⟨o, _, _, ho, _⟩ := hgen
    exact Heap.lt_size ho
  refine callType_codes (Q₁ := fun obj s₁ => s₁.TypeIs obj "tuple" ∧ EP X pins σ Q obj s₁) F.called_tuple (F.typeCall_tuple_1 _) F.entry_object_init
    (code_tuple_new_genG hgen fun hS c0 hk hS' => ?_) fun obj s₁ h₁ => ⟨h₁.1, F.args_object_init_2 obj _, object_init_meets F.called_tuple.init.lookup F.called_tuple.made (by decide) X.prog X.w X.A.in1 _ s₁ ⟨h₁.1, rfl, h₁.2⟩⟩
  have hSf : s5.heap.objs.size ∉ fp := fun z => Nat.lt_irrefl _ (hlt5 _ z)
  have hSL : s5.heap.objs.size ≠ X'.env.locals := fun z => by
    have := I5.lt
    rw [← z] at this
    exact Nat.lt_irrefl _ this
  have hSn : H2 s5.heap.objs.size = none := I5.hok.fresh (Nat.le_refl _)
  have hSfs : s5.heap.objs.size ∉ X'.fs := I5.nofs (Nat.le_refl _)
  have hSc : ∀ x c, X'.env.cells.lookup x = some c → c ≠ s5.heap.objs.size := fun x c e z => by
    obtain ⟨v, q⟩ := I5.cell x c e
    have := q.lt
    rw [z] at this
    exact Nat.lt_irrefl _ this
  have hAp : Apart X' s5.heap.objs.size := ⟨I5.sz, hSL, hSc⟩
  have hpn : ∀ p ∈ X'.pn, p.1 ≠ s5.heap.objs.size := fun p hp => by
    subst hX'
    rw [List.mem_singleton.mp hp]
    exact Nat.ne_of_lt halt
  have I6 : Inv X' [(s5.heap.objs.size, lstObj #[] c0)] (capS cap σ) H2 { s5 with heap := hS } := (inv_gens (G := s5.gens) I5 I5.bare hk).pins_of fun p hp => by
    rw [List.mem_singleton.mp hp]
    exact ⟨hS', hSn, hSL, hSfs, fun v q => by cases q⟩
  have tn6 : tn 0 hS := G.turn.keep _ _ _ G.tn0 fun b _ o e => hk b o e
  have Fs : FpSt X' fp (pinS s5.heap.objs.size) := by
    refine ⟨fun b hb => ?_, fun b hb t pins' hp p hp' z => ?_⟩
    · subst hX'
      exact ⟨(I5.ok.exf b hb).1, I5.ok.exfs b hb, hb, (I5.ok.exf b hb).2⟩
    · obtain ⟨acc, cc, _, rfl⟩ := hp
      rcases List.mem_append.mp hp' with y | y
      · subst hX'
        rw [List.mem_singleton.mp y] at z
        have l1 := (G.fpOk b hb).2
        rw [← z] at l1
        exact absurd (Nat.lt_trans G.above l1) (Nat.lt_irrefl _)
      · rw [List.mem_singleton.mp y] at z
        exact hSf (by rw [show s5.heap.objs.size = b from z]; exact hb)
  have kp5 : ∀ i h h', tn i h → (∀ b ∈ fp, ∀ o, h.get? b = some o → h'.get? b = some o) → tn i h' := fun i h h' => G.turn.keep i h h'
  have main := tup_drain (X := X') (B := X.A.in1.in1) (D := fun ys H' => ys.length ≤ sizeLine ∧ ∀ p, H' p = none → Q (.ref p) (upd H' p (.tup ys))) (n0 := n0) (Wk := Wk) (fp := fp) (tn := tn) hr.hd (by have := hr.dp; show X.A.depth < _; omega) hig hAp hpn kp5 hSf (n0 + 1) { s5 with heap := hS } (hig _ _ _ _ I6) I6.nolimit ⟨_, G.gen, rfl, by
    subst hX'
    exact gx_start (X := X.gen s4 H2 (cenvOf X scope s4.heap.objs.size code) (elA X.A.in1.in1.in1.in1 (.GeneratorExp elt [⟨tg, iter, [], 0⟩] scope gpos) it (cenvOf X scope s4.heap.objs.size code)) N' fp [(a, gobj)]) (A := X.A.in1.in1.in1.in1) rfl rfl rfl S.co (fun e s z => z) G.turn Fs (hg _ _ _ _ _ _ _) (he _ _ _ _ _ _ _ (elA_room4 hr)) (fun i m t σ' H' w' => (turn i t σ' H' w'.2.1 w'.2.2).imp id fun y => ⟨y.1, ⟨y.2.1, w'.1⟩, y.2.2⟩) (n0 + 1) n0 [] _ (capS cap σ) H2 _ _ (Nat.lt_succ_self _) ⟨rfl, Nat.zero_le _, w0⟩ ⟨#[], c0, .nil, rfl⟩ (inv_gens I6 (allBare_setGen (s := { s5 with heap := hS }) (g := gn) (x := .running) I6.bare rfl) (fun _ _ e => e)) tn6 (fun b hb => (G.fpOk b hb).1.1)⟩
  have eP : X'.prog = X.prog := by subst hX'; rfl
  have eW : X'.w = X.w := by subst hX'; rfl
  rw [eP, eW] at main
  refine codeAny_mono main fun r s' hq => ?_
  obtain ⟨ys, σ', H', acc, c, rfl, hv, J1, hys, hQ⟩ := hq
  have J0 := J1.pin (s5.heap.objs.size, lstObj acc c) (List.mem_append_right _ (List.mem_singleton.mpr rfl))
  have hasz : acc.size ≤ sizeLine := by
    have e1 := hv.length
    have e2 : acc.toList.length = acc.size := by simp
    omega
  refine ⟨rfl, acc, c, J0.1, hasz, ⟨_, Heap.get?_push_size _ rfl, rfl⟩, ?_⟩
  have J2 : Inv X pins σ H' s' := by
    subst hX'
    exact G.inv4.call' (ch := fp) J1.os J1.base J1.hok J1.bare (fun b hb => let ⟨_, f1, _, f3, f4, f5⟩ := (G.fpOk b hb).1; ⟨f3, f1, f4, f5⟩)
  have hf : H' s'.heap.objs.size = none := J2.hok.fresh (Nat.le_refl _)
  refine ⟨.ref s'.heap.objs.size, upd H' s'.heap.objs.size (.tup ys), J2.laid (t' := s'.toks) (fun b u e => Heap.get?_push_of_some _ e) (Nat.le_refl _) ?_, rfl, hQ _ hf⟩
  exact ⟨hys, acc.toList, hv, ⟨_, Heap.get?_push_size _ rfl, rfl, 0, by show Data.seq acc 0 = Data.seq acc.toList.toArray 0; rw [Array.toArray_toList]⟩⟩
end
end Gx

set_option Elab.async false
set_option linter.all false
set_option maxRecDepth 100000
set_option maxHeartbeats 2000000
/-! len(set(xs)), xs a list or a tuple of texts, some of them perhaps more than once. -/
namespace Ss
open PySem PySem.Spec PyProof.Rows L2
/-- among the first i -/
def inn (xs : List Str) (i : Nat) (k : Str) : Bool := (xs.take i).any (· == k)
/-- how many different ones are among the first i -/
def cnt (xs : List Str) : Nat → Nat
  | 0 => 0
  | i + 1 => if inn xs i (xs.getD i Str.empty) = true then cnt xs i else cnt xs i + 1
theorem cnt_le (xs : List Str) : ∀ i, cnt xs i ≤ i
  | 0 => Nat.le_refl _
  | i + 1 => by
    unfold cnt
    have := cnt_le xs i
    split <;> omega
theorem cnt_full {xs : List Str} : ∀ i, i ≤ xs.length → (cnt xs i = i ↔ (xs.take i).Nodup)
  | 0, _ => by simp [cnt]
  | i + 1, hi => by
    have ih := cnt_full (xs := xs) i (by omega)
    have hg : xs[i]? = some (xs.getD i Str.empty) := by
      rw [List.getD_eq_getElem?_getD, List.getElem?_eq_getElem (by omega)]; rfl
    have et : xs.take (i + 1) = xs.take i ++ [xs.getD i Str.empty] := by rw [List.take_add_one, hg]; rfl
    have le := cnt_le xs i
    have em : inn xs i (xs.getD i Str.empty) = true ↔ xs.getD i Str.empty ∈ xs.take i := by
      unfold inn
      rw [List.any_eq_true]
      constructor
      · rintro ⟨x, hx, e⟩
        rw [← eq_of_beq e]; exact hx
      · intro h
        exact ⟨_, h, by simp⟩
    rw [et, List.nodup_append]
    unfold cnt
    by_cases c : inn xs i (xs.getD i Str.empty) = true
    · rw [if_pos c]
      constructor
      · intro h; omega
      · rintro ⟨_, _, h⟩
        exact absurd rfl (h _ (em.mp c) _ (List.mem_singleton.mpr rfl))
    · rw [if_neg c]
      constructor
      · intro h
        refine ⟨ih.mp (by omega), by simp, fun a ha b hb e => ?_⟩
        rw [List.mem_singleton.mp hb] at e
        exact c (em.mpr (e ▸ ha))
      · rintro ⟨h, _, _⟩
        have := ih.mpr h
        omega
abbrev setO (led : Bool) : Obj := { cls := .type "set", dict := none, data := .set #[] 0 (.fresh 0 0 led) }
section
variable {prog : Program} {w : World} {A : Around} {R : Result → Shared → Prop} {I : Addr} {fp wr : List Addr} {G : Array GenState → Array GenState → Prop} {n : Nat} {P : Nat → Value → Prop} {St : Nat → Shared → Prop}
theorem loopS (W : WalksS prog w A.in1 I fp wr G n P St) (S : Addr) (hSf : S ∉ fp) (xs : List Str) (hsz : xs.length = n) (hn1 : n < 1000) (hval : ∀ i v, P i v → ∃ t, v = .str (xs.getD i Str.empty) t) :
    ∀ (k i : Nat) (s : Shared), n - i = k → i ≤ n → St i s → s.heap.SetOf (PySem.strKind prog w) S (inn xs i) (cnt xs i) →
      (∀ s', Moved (S :: wr) G s s' → s'.heap.SetOf (PySem.strKind prog w) S (inn xs n) (cnt xs n) → R (.ok (.ret .none)) s') →
      codeAny (model prog w) A (.builtin "set.update.loop" ⟨[.ref S, .ref I], []⟩) R s := by
  have hSw : S ∉ wr := fun h => hSf (W.sub _ h)
  have hsub : ∀ b ∈ wr, b ∈ S :: wr := fun b hb => List.mem_cons_of_mem _ hb
  intro k
  induction k with
  | zero =>
    intro i s hk hi hst hS hR
    have hin : i = n := by omega
    subst hin
    refine codeAny_builtin PyProof.Rows.F.entry_set_update_loop ?_
    rw [Around.under_plainId PyProof.Rows.F.plain_set_update_loop _]
    show wpAny _ A.in1 (pyNext (.ref I) >>= _) _ _ s
    refine wpAny_bind (W.done s _ _ hst fun s' hm => ?_)
    show wpAny _ A.in1 (ret Value.none) _ _ s'
    obtain ⟨o, es, ep, t, ho, rest⟩ := hS
    exact wpAny_pure (hR s' (hm.mono hsub) ⟨o, es, ep, t, hm.heap S _ hSw ho, rest⟩)
  | succ k ih =>
    intro i s hk hi hst hS hR
    have hlt : i < n := by omega
    refine codeAny_builtin PyProof.Rows.F.entry_set_update_loop ?_
    rw [Around.under_plainId PyProof.Rows.F.plain_set_update_loop _]
    show wpAny _ A.in1 (pyNext (.ref I) >>= _) _ _ s
    refine wpAny_bind (W.item i s _ _ hlt hst fun v s' hP hst' hm => ?_)
    obtain ⟨t, rfl⟩ := hval i v hP
    have hS' : s'.heap.SetOf (PySem.strKind prog w) S (inn xs i) (cnt xs i) := by
      obtain ⟨o, es, ep, tb, ho, rest⟩ := hS
      exact ⟨o, es, ep, tb, hm.heap S _ hSw ho, rest⟩
    show wpAny _ A.in1 (holding [Value.str (xs.getD i Str.empty) t] (setAdd S (.str (xs.getD i Str.empty) t)) >>= _) _ _ s'
    refine wpAny_bind (wpAny_holding ?_)
    unfold setAdd
    refine wpAny_holding ?_
    refine wpAny_bind ((PySem.strKind prog w).pyHash (k := xs.getD i Str.empty) (strKind_is _ _ _ _) ?_)
    refine wpAny_setAddHashed_of (knd := PySem.strKind prog w) (s := { s' with toks := s'.toks + 1 }) (strKind_is _ _ _ _) rfl hS' (by have := cnt_le xs i; unfold scanBound; omega) fun h' hsb hS2 => ?_
    have hg : xs[i]? = some (xs.getD i Str.empty) := by
      rw [List.getD_eq_getElem?_getD, List.getElem?_eq_getElem (by omega)]; rfl
    have hSi : h'.SetOf (PySem.strKind prog w) S (inn xs (i + 1)) (cnt xs (i + 1)) := by
      refine SetOf_congr hS2 (fun k' => ?_) (by rw [cnt])
      show (inn xs i k' || decide (k' = xs.getD i Str.empty)) = inn xs (i + 1) k'
      unfold inn
      rw [List.take_add_one, hg, List.any_append]
      congr 1
      by_cases e : k' = xs.getD i Str.empty
      · rw [e]; simp
      · have hb : (xs.getD i Str.empty == k') = false := by simpa [beq_iff_eq] using (fun h' : xs.getD i Str.empty = k' => e h'.symm)
        rw [decide_eq_false e]
        show false = (xs.getD i Str.empty == k' || false)
        rw [hb]; rfl
    refine wpAny_pure ⟨plainId_quiet PyProof.Rows.F.plain_set_update_loop _, ih (i + 1) _ (by omega) hlt (W.frame _ s' _ _ hst' (Nat.le_succ _) fun b hb o e => ?_) hSi fun s'' hm'' hS'' => ?_⟩
    · rw [hsb.2 b (fun h : b = S => hSf (by rw [← h]; exact hb))]; exact e
    · refine hR s'' (Moved.trans W.gtrans ((hm.mono hsub).then_heap (Nat.le_succ _) fun b o hb e => ?_) hm'') hS''
      rw [hsb.2 b (fun h : b = S => hb (by rw [h]; exact List.mem_cons_self))]; exact e
end
section
variable {prog : Program} {w : World} {A : Around} {E : Value → Shared → Prop} {s : Shared}
end
end Ss

set_option Elab.async false
set_option linter.all false
set_option maxRecDepth 100000
namespace Ss
open PySem PySem.Spec PyProof.Rows L2
section
variable {prog : Program} {w : World} {A : Around} {E : Value → Shared → Prop} {s : Shared}

set_option maxHeartbeats 3200000 in
theorem set_of_list {l : Addr} {items : Array Value} {xs : List Str} {Q : Value → Shared → Prop} (hh : A.handled = none) (hl : s.heap.IsList l items) (hi : StrsAre items.toList xs) (hn1 : xs.length < 1000)
    (h : ∀ (h' : Heap) (tk : Nat), h'.SetOf (PySem.strKind prog w) s.heap.objs.size (inn xs items.size) (cnt xs items.size) → (∀ b o, b < s.heap.objs.size → s.heap.get? b = some o → h'.get? b = some o) → Q (.ref s.heap.objs.size) { s with heap := h', toks := tk }) :
    wpAny (model prog w) A (call (.type "set") [.ref l]) Q E s := by
  obtain ⟨c, tl, hmro⟩ := PySem.F.called_set.mro
  have hmade := PySem.F.called_set.made
  have hsub := PySem.F.called_set.sub
  refine wpAny_call (codeAny_of_tree ?_)
  show wpAny _ _ (callAny (.type "set") _) _ _ _
  refine wpAny_pure ⟨Code.quiet_builtin _ (by decide +kernel), codeAny_builtin PySem.F.entry_type_call ?_⟩
  rw [Around.under_plain (weight_type_call_type "set" [.ref l] []) rfl]
  have h1 := PySem.F.called_set.notType
  have h2 := PySem.F.called_set.canCreate
  have hct := PySem.F.typeCall_set_1 (.ref l)
  repeat (any_goals (first | assumption | wp_step))

  refine codeAny_mono (code_set_new_1 (.ref l) (E := E) (Q₁ := fun obj s₁ => ∃ led : Bool, obj = .ref s.heap.objs.size ∧ s₁ = { s with heap := s.heap.push { cls := .type "set", dict := none, data := .set #[] 0 (.fresh 0 0 led) } }) fun led => ⟨led, rfl, rfl⟩) fun r s₁ hr => ?_
  cases r with
  | error e => exact hr
  | ok fl =>
    cases fl with
    | ret obj =>
      obtain ⟨led, rfl, rfl⟩ := hr
      have hS : (s.heap.push { cls := .type "set", dict := none, data := .set #[] 0 (.fresh 0 0 led) }).get? s.heap.objs.size = some ({ cls := .type "set", dict := none, data := .set #[] 0 (.fresh 0 0 led) }) := Heap.get?_push_size _ rfl
      have hT : Shared.TypeIs { s with heap := s.heap.push { cls := .type "set", dict := none, data := .set #[] 0 (.fresh 0 0 led) } } (.ref s.heap.objs.size) "set" := ⟨_, hS, rfl⟩
      have hli := PySem.F.called_set.init.lookup
      have hbi := PySem.F.called_set.init.bind (.ref s.heap.objs.size)
      repeat (any_goals (first | assumption | wp_step))

      refine codeAny_mono (codeAny_call_builtin (R := wants (fun r s₂ => r = .none ∧ ∃ h' tk, s₂ = { s with heap := h', toks := tk } ∧ h'.SetOf (PySem.strKind prog w) s.heap.objs.size (inn xs items.size) (cnt xs items.size) ∧
          (∀ b o, b < s.heap.objs.size → s.heap.get? b = some o → h'.get? b = some o)) E) PySem.F.called_set.init.plain PySem.F.entry_set_init (check_set_init_1 hT ?_)) fun r₂ s₂ hr₂ => ?_
      · obtain ⟨ol, hol, hcl, nl, hdl⟩ := hl
        obtain ⟨ocls, odict, odata, oslots⟩ := ol
        simp only at hcl hdl
        subst hcl; subst hdl
        have hol' : (s.heap.push { cls := .type "set", dict := none, data := .set #[] 0 (.fresh 0 0 led) }).get? l = some { cls := .type "list", dict := odict, data := .seq items nl, slots := oslots } := Heap.get?_push_of_some _ hol
        have hsls := PySem.F.sub_list_set
        have hslf := PySem.F.sub_list_frozenset
        have hne : (Value.type "list" == Value.type "dict") = false := by decide
        have hl1 : (s.heap.push { cls := .type "set", dict := none, data := .set #[] 0 (.fresh 0 0 led) }).IsList l items := ⟨_, hol', rfl, nl, rfl⟩
        unfold Builtin.«set.__init__» noKeywords Builtin.Frozenset.updateFrom
        generalize hPI : pyIter = PI
        wp_walk
        subst hPI

        refine wpAny_pyIter_list hl1 ?_
        refine wpAny_bind (wpAny_runValue ?_)
        have hlS : l < s.heap.objs.size := Heap.lt_size hol
        have hh3 : A.in1.in1.in1.handled = none := by simp [hh]
        have esz : (s.heap.push { cls := .type "set", dict := none, data := .set #[] 0 (.fresh 0 0 led) }).objs.size = s.heap.objs.size + 1 := Heap.size_push ..
        have hneI : l ≠ (s.heap.push { cls := .type "set", dict := none, data := .set #[] 0 (.fresh 0 0 led) }).objs.size := by
          rw [esz]; exact Nat.ne_of_lt (Nat.lt_succ_of_lt hlS)
        have hSf : s.heap.objs.size ∉ [(s.heap.push { cls := .type "set", dict := none, data := .set #[] 0 (.fresh 0 0 led) }).objs.size, l] := by
          rw [esz]; simp only [List.mem_cons, List.mem_singleton, List.not_mem_nil, or_false, not_or]
          exact ⟨Nat.ne_of_lt (Nat.lt_succ_self _), Nat.ne_of_gt hlS⟩
        have hsz : xs.length = items.size := by rw [← StrsAre.len_eq hi, Array.length_toList]
        have hval : ∀ (i : Nat) (v : Value), items[i]? = some v → ∃ t, v = .str (xs.getD i Str.empty) t := fun i v hv => SS.strs_at hi i v (by rw [Array.getElem?_toList]; exact hv)
        refine loopS ((Walks.list hh3 _ l hneI items).toS) s.heap.objs.size hSf xs hsz (by rw [← hsz]; exact hn1) hval (items.size - 0) 0 _ (by omega) (Nat.zero_le _) ⟨⟨_, Heap.get?_push_size _ rfl, rfl, rfl⟩, (hl1.push _)⟩ ?hS0 ?hR
        case hS0 =>
          exact PyProof.Rows.SetOf_congr ((PyProof.Rows.setObjOf_fresh (knd := PySem.strKind prog w) led).setOf (Heap.get?_push_of_some _ hS) (by unfold scanBound; omega)) (fun _ => rfl) rfl
        case hR =>
          intro s' hm hS'
          obtain ⟨h', g', d', tk', os'⟩ := s'
          have eg : g' = s.gens := hm.gens
          have ed : d' = s.drawn := hm.drawn
          have eo : os' = s.os := hm.os
          subst eg; subst ed; subst eo
          show wpAny _ _ _ _ _ _
          refine wpAny_pure ?_
          show wpAny _ _ (ret Value.none) _ _ _
          refine wpAny_pure ⟨rfl, h', tk', rfl, hS', fun b o hb e => hm.heap b o ?_ (Heap.get?_push_of_some _ (Heap.get?_push_of_some _ e))⟩
          rw [esz]
          simp only [List.mem_cons, List.mem_singleton, List.not_mem_nil, or_false, not_or]
          exact ⟨Nat.ne_of_lt hb, Nat.ne_of_lt (Nat.lt_succ_of_lt hb)⟩

      · cases r₂ with
        | error e => exact hr₂
        | ok fl₂ =>
          cases fl₂ with
          | ret r =>
            obtain ⟨rfl, h', tk, rfl, hS', hk'⟩ := hr₂
            repeat (any_goals (first | assumption | wp_step))
            exact h _ _ hS' hk'
          | _ => exact hr₂.elim
    | _ => exact hr.elim
end
end Ss

set_option Elab.async false
set_option linter.all false
set_option maxRecDepth 100000
namespace Ss
open PySem PySem.Spec PyProof.Rows L2
section
variable {prog : Program} {w : World} {A : Around} {E : Value → Shared → Prop} {s : Shared}

set_option maxHeartbeats 3200000 in
theorem set_of_tuple {l : Addr} {items : Array Value} {xs : List Str} {Q : Value → Shared → Prop} (hh : A.handled = none) (hl : s.heap.IsTuple l items) (hi : StrsAre items.toList xs) (hn1 : xs.length < 1000)
    (h : ∀ (h' : Heap) (tk : Nat), h'.SetOf (PySem.strKind prog w) s.heap.objs.size (inn xs items.size) (cnt xs items.size) → (∀ b o, b < s.heap.objs.size → s.heap.get? b = some o → h'.get? b = some o) → Q (.ref s.heap.objs.size) { s with heap := h', toks := tk }) :
    wpAny (model prog w) A (call (.type "set") [.ref l]) Q E s := by
  obtain ⟨c, tl, hmro⟩ := PySem.F.called_set.mro
  have hmade := PySem.F.called_set.made
  have hsub := PySem.F.called_set.sub
  refine wpAny_call (codeAny_of_tree ?_)
  show wpAny _ _ (callAny (.type "set") _) _ _ _
  refine wpAny_pure ⟨Code.quiet_builtin _ (by decide +kernel), codeAny_builtin PySem.F.entry_type_call ?_⟩
  rw [Around.under_plain (weight_type_call_type "set" [.ref l] []) rfl]
  have h1 := PySem.F.called_set.notType
  have h2 := PySem.F.called_set.canCreate
  have hct := PySem.F.typeCall_set_1 (.ref l)
  repeat (any_goals (first | assumption | wp_step))

  refine codeAny_mono (code_set_new_1 (.ref l) (E := E) (Q₁ := fun obj s₁ => ∃ led : Bool, obj = .ref s.heap.objs.size ∧ s₁ = { s with heap := s.heap.push { cls := .type "set", dict := none, data := .set #[] 0 (.fresh 0 0 led) } }) fun led => ⟨led, rfl, rfl⟩) fun r s₁ hr => ?_
  cases r with
  | error e => exact hr
  | ok fl =>
    cases fl with
    | ret obj =>
      obtain ⟨led, rfl, rfl⟩ := hr
      have hS : (s.heap.push { cls := .type "set", dict := none, data := .set #[] 0 (.fresh 0 0 led) }).get? s.heap.objs.size = some ({ cls := .type "set", dict := none, data := .set #[] 0 (.fresh 0 0 led) }) := Heap.get?_push_size _ rfl
      have hT : Shared.TypeIs { s with heap := s.heap.push { cls := .type "set", dict := none, data := .set #[] 0 (.fresh 0 0 led) } } (.ref s.heap.objs.size) "set" := ⟨_, hS, rfl⟩
      have hli := PySem.F.called_set.init.lookup
      have hbi := PySem.F.called_set.init.bind (.ref s.heap.objs.size)
      repeat (any_goals (first | assumption | wp_step))

      refine codeAny_mono (codeAny_call_builtin (R := wants (fun r s₂ => r = .none ∧ ∃ h' tk, s₂ = { s with heap := h', toks := tk } ∧ h'.SetOf (PySem.strKind prog w) s.heap.objs.size (inn xs items.size) (cnt xs items.size) ∧
          (∀ b o, b < s.heap.objs.size → s.heap.get? b = some o → h'.get? b = some o)) E) PySem.F.called_set.init.plain PySem.F.entry_set_init (check_set_init_1 hT ?_)) fun r₂ s₂ hr₂ => ?_
      · obtain ⟨ol, hol, hcl, nl, hdl⟩ := hl
        obtain ⟨ocls, odict, odata, oslots⟩ := ol
        simp only at hcl hdl
        subst hcl; subst hdl
        have hol' : (s.heap.push { cls := .type "set", dict := none, data := .set #[] 0 (.fresh 0 0 led) }).get? l = some { cls := .type "tuple", dict := odict, data := .seq items nl, slots := oslots } := Heap.get?_push_of_some _ hol
        have hsls := PySem.F.sub_tuple_set
        have hslf := PySem.F.sub_tuple_frozenset
        have hne : (Value.type "tuple" == Value.type "dict") = false := by decide
        have hl1 : (s.heap.push { cls := .type "set", dict := none, data := .set #[] 0 (.fresh 0 0 led) }).IsTuple l items := ⟨_, hol', rfl, nl, rfl⟩
        unfold Builtin.«set.__init__» noKeywords Builtin.Frozenset.updateFrom
        generalize hPI : pyIter = PI
        wp_walk
        subst hPI

        refine wpAny_pyIter_tuple hl1 ?_
        refine wpAny_bind (wpAny_runValue ?_)
        have hlS : l < s.heap.objs.size := Heap.lt_size hol
        have hh3 : A.in1.in1.in1.handled = none := by simp [hh]
        have esz : (s.heap.push { cls := .type "set", dict := none, data := .set #[] 0 (.fresh 0 0 led) }).objs.size = s.heap.objs.size + 1 := Heap.size_push ..
        have hneI : l ≠ (s.heap.push { cls := .type "set", dict := none, data := .set #[] 0 (.fresh 0 0 led) }).objs.size := by
          rw [esz]; exact Nat.ne_of_lt (Nat.lt_succ_of_lt hlS)
        have hSf : s.heap.objs.size ∉ [(s.heap.push { cls := .type "set", dict := none, data := .set #[] 0 (.fresh 0 0 led) }).objs.size, l] := by
          rw [esz]; simp only [List.mem_cons, List.mem_singleton, List.not_mem_nil, or_false, not_or]
          exact ⟨Nat.ne_of_lt (Nat.lt_succ_self _), Nat.ne_of_gt hlS⟩
        have hsz : xs.length = items.size := by rw [← StrsAre.len_eq hi, Array.length_toList]
        have hval : ∀ (i : Nat) (v : Value), items[i]? = some v → ∃ t, v = .str (xs.getD i Str.empty) t := fun i v hv => SS.strs_at hi i v (by rw [Array.getElem?_toList]; exact hv)
        refine loopS ((Walks.tuple hh3 _ l hneI items).toS) s.heap.objs.size hSf xs hsz (by rw [← hsz]; exact hn1) hval (items.size - 0) 0 _ (by omega) (Nat.zero_le _) ⟨⟨_, Heap.get?_push_size _ rfl, rfl, rfl⟩, (hl1.push _)⟩ ?hS0 ?hR
        case hS0 =>
          exact PyProof.Rows.SetOf_congr ((PyProof.Rows.setObjOf_fresh (knd := PySem.strKind prog w) led).setOf (Heap.get?_push_of_some _ hS) (by unfold scanBound; omega)) (fun _ => rfl) rfl
        case hR =>
          intro s' hm hS'
          obtain ⟨h', g', d', tk', os'⟩ := s'
          have eg : g' = s.gens := hm.gens
          have ed : d' = s.drawn := hm.drawn
          have eo : os' = s.os := hm.os
          subst eg; subst ed; subst eo
          show wpAny _ _ _ _ _ _
          refine wpAny_pure ?_
          show wpAny _ _ (ret Value.none) _ _ _
          refine wpAny_pure ⟨rfl, h', tk', rfl, hS', fun b o hb e => hm.heap b o ?_ (Heap.get?_push_of_some _ (Heap.get?_push_of_some _ e))⟩
          rw [esz]
          simp only [List.mem_cons, List.mem_singleton, List.not_mem_nil, or_false, not_or]
          exact ⟨Nat.ne_of_lt hb, Nat.ne_of_lt (Nat.lt_succ_of_lt hb)⟩

      · cases r₂ with
        | error e => exact hr₂
        | ok fl₂ =>
          cases fl₂ with
          | ret r =>
            obtain ⟨rfl, h', tk, rfl, hS', hk'⟩ := hr₂
            repeat (any_goals (first | assumption | wp_step))
            exact h _ _ hS' hk'
          | _ => exact hr₂.elim
    | _ => exact hr.elim

end
section
variable {X : Cx}
/-- len(set(ta)) -/
def tLenSetS (K : PySem.W.Frag) (ta : TE) : TE := fun σ H Q => ta σ H fun x H1 => ∃ l, ∃ xs : List Str, x = .ref l ∧ (SqL K H1 l (xs.map V.str) ∨ SqT K H1 l (xs.map V.str)) ∧ xs.length < 1000 ∧ Q (.int (cnt xs xs.length)) H1
theorem pe_lenSetS {a : Expr} {ta : TE} {p p2 q pos : Pos} (hc : X.calm = true) (hg : Gl X "len") (hm : X.mg "len" = none) (hg2 : Gl X "set") (hm2 : X.mg "set" = none) (ha : PE X a ta)
    (na : starEach [a] X.env = (false, eval a X.env) :: starEach [] X.env := by rfl) : PE X (.Call (.Name "len" p) [.Call (.Name "set" p2) [a] [] q] [] pos) (tLenSetS X.K ta) := by
  refine ⟨fun pins s σ H Q I h => ?_⟩
  refine Call_ (ld_blt I hg hm PySem.boot_len ?_)
  refine PyProof.Rows.callWith_builtin1 (PyProof.Rows.args_cons ?_ rfl) rfl rfl
  refine Call_ (ld_blt I hg2 hm2 PyProof.Rows.boot_set ?_)
  refine PyProof.Rows.callWith_type1 (PyProof.Rows.args_cons (thn (ha.run pins s σ H _ I h) fun v s1 ⟨x, H1, I1, r1, q1⟩ => PyProof.Rows.args_nil ?_) na) na rfl
  obtain ⟨l, xs, rfl, hq, h1, q1⟩ := q1
  cases r1
  have fin : ∀ (n : Nat) (h' : Heap) (tk : Nat), n = xs.length → h'.SetOf (PySem.strKind X.prog X.w) s1.heap.objs.size (inn xs n) (cnt xs n) → (∀ b o, b < s1.heap.objs.size → s1.heap.get? b = some o → h'.get? b = some o) →
      wpAny (model X.prog X.w) X.A (call (.builtin "len") [.ref s1.heap.objs.size]) (EP X pins σ Q) X.xe { s1 with heap := h', toks := tk } := fun n h' tk en hS hk => by
    subst en
    obtain ⟨o, es, ep, t, ho, hex, hd, _, _, _, hf, hn⟩ := hS
    have I2 : Inv X pins σ H1 { s1 with heap := h', toks := tk } := I1.kept fun b o e => hk b o (Heap.lt_size e) e
    have le := cnt_le xs xs.length
    exact call_len_set ho hex hd hf (by rw [hn]; omega) ⟨.int _, H1, I2.tok _, ⟨_, by rw [hn]⟩, q1⟩
  rcases hq with hq | hq
  · obtain ⟨its, r, pl, hz⟩ := I1.list hq
    have hl : its.toArray.size = xs.length := by rw [List.size_toArray, ← r.length, List.length_map]
    exact set_of_list (I1.ok.hd hc) pl.isList (xs := xs) (by simpa using r.strs) h1 fun h' tk hS hk => PyProof.Rows.args_nil (fin _ h' tk hl hS hk)
  · obtain ⟨its, r, pl, hz⟩ := I1.tuple hq
    have hl : its.toArray.size = xs.length := by rw [List.size_toArray, ← r.length, List.length_map]
    exact set_of_tuple (I1.ok.hd hc) (show s1.heap.IsTuple l its.toArray from pl) (xs := xs) (by simpa using r.strs) h1 fun h' tk hS hk => PyProof.Rows.args_nil (fin _ h' tk hl hS hk)
end
end Ss

set_option Elab.async false
set_option linter.all false
set_option maxRecDepth 100000
set_option maxHeartbeats 2000000
/-! The rows of the text; things as they are judged; frames. -/
namespace Rw
open PySem PySem.Spec PyProof.Rows L2 Dw
abbrev sIsNumber : Stmt := topS 6
abbrev sIsIndex : Stmt := topS 7
abbrev sIsTupleOf : Stmt := topS 8
abbrev sIsTold : Stmt := topS 9
abbrev sIsAmong : Stmt := topS 10
abbrev sIsName : Stmt := topS 13
abbrev sAreNames : Stmt := topS 15
abbrev sIsCall : Stmt := topS 16
abbrev sIsHouse : Stmt := topS 17
abbrev sCallNames : Stmt := topS 18
abbrev sAnswerNames : Stmt := topS 19
abbrev sIsWord : Stmt := topS 20
abbrev sIsProgram : Stmt := topS 22
abbrev sIsRow : Stmt := topS 23
abbrev sIsEntry : Stmt := topS 24
abbrev sNeed : Stmt := topS 25
abbrev sEntries : Stmt := topS 26
abbrev sAnswers : Stmt := topS 27
abbrev sHistory : Stmt := topS 28
abbrev sStateBehind : Stmt := topS 29
end Rw
namespace Th
open PySem PySem.Spec PyProof.Rows L2 GxR
/-- a thing as it is judged: lists and dicts are alike -/
inductive Th where
  | non
  | bl (b : Bool)
  | int (i : Int)
  | str (z : List Nat)
  | tup (xs : List Th)
  | oth
inductive IsTh (H : Hp) : V → Th → Prop where
  | non : IsTh H .non .non
  | bl (b : Bool) : IsTh H (.bl b) (.bl b)
  | int (i : Int) : IsTh H (.int i) (.int i)
  | str (z : List Nat) (h : z.length ≤ 100000 ∧ ∀ c ∈ z, c < 127) : IsTh H (.str ⟨z.toArray⟩) (.str z)
  | tup (a : Addr) (xs : List V) (ts : List Th) (h : H a = some (.tup xs)) (l : xs.length = ts.length) (z : xs.length ≤ 100000) (e : ∀ (i : Nat) (v : V) (t : Th), xs[i]? = some v → ts[i]? = some t → IsTh H v t) : IsTh H (.ref a) (.tup ts)
  | lst (a : Addr) (xs : List V) (h : H a = some (.lst xs)) : IsTh H (.ref a) .oth
  | dic (a : Addr) (xs : List (Key × V)) (h : H a = some (.dK xs)) : IsTh H (.ref a) .oth
/-- what stood is kept, but at W -/
def Fr (W : List Addr) (H H' : Hp) : Prop := ∀ b o, b ∉ W → H b = some o → H' b = some o
def Tabs (T : List Addr) (H : Hp) : Prop := ∀ b ∈ T, TabG H b
theorem Fr.refl {W : List Addr} {H : Hp} : Fr W H H := fun _ _ _ e => e
theorem Fr.trans {W : List Addr} {H1 H2 H3 : Hp} (a : Fr W H1 H2) (b : Fr W H2 H3) : Fr W H1 H3 := fun x o n e => b x o n (a x o n e)
theorem Fr.mono {W W' : List Addr} {H1 H2 : Hp} (a : Fr W H1 H2) (h : ∀ b ∈ W, b ∈ W') : Fr W' H1 H2 := fun x o n e => a x o (fun z => n (h x z)) e
theorem Fr.new {W : List Addr} {H : Hp} {p : Addr} {o : HO} (n : H p = none) : Fr W H (upd H p o) := fun b u _ e => by rw [upd_ne (fun y => by rw [y, n] at e; cases e)]; exact e
theorem Fr.tab {T : List Addr} {P : Addr} {H H' : Hp} (hP : P ∈ T) (h : Tabbed P H H') : Fr T H H' := fun b o n e => by rw [h.2 b (fun y => n (y ▸ hP))]; exact e
theorem Tabs.keep {T : List Addr} {H H' : Hp} (t : Tabs T H) (h : ∀ b o, H b = some o → H' b = some o) : Tabs T H' := fun b hb => let ⟨ps, e, q⟩ := t b hb; ⟨ps, h _ _ e, q⟩
theorem Tabs.new {T : List Addr} {H : Hp} {p : Addr} {o : HO} (t : Tabs T H) (n : H p = none) : Tabs T (upd H p o) := t.keep fun b u e => by rw [upd_ne (fun y => by rw [y, n] at e; cases e)]; exact e
theorem Tabs.tab {T : List Addr} {P : Addr} {H H' : Hp} (t : Tabs T H) (h : Tabbed P H H') : Tabs T H' := fun b hb => by
  by_cases e : b = P
  · rw [e]; exact h.1
  · obtain ⟨ps, q1, q2⟩ := t b hb
    exact ⟨ps, by rw [h.2 b e]; exact q1, q2⟩
theorem Tabs.ne {T : List Addr} {H : Hp} {a : Addr} {o : HO} (t : Tabs T H) (h : H a = some o) (n : ∀ ps, o ≠ .tbl ps) : a ∉ T := fun hb => by
  obtain ⟨ps, e, _⟩ := t a hb
  rw [e] at h; cases h
  exact n ps rfl
theorem Tabs.at {T : List Addr} {H H' : Hp} {a : Addr} {o : HO} (t : Tabs T H) (f : Fr T H H') (h : H a = some o) (n : ∀ ps, o ≠ .tbl ps) : H' a = some o := f a o (t.ne h n) h
theorem isTh_keep {H H' : Hp} (k : ∀ b o, H b = some o → (∀ ps, o ≠ .tbl ps) → H' b = some o) {v : V} {t : Th} (h : IsTh H v t) : IsTh H' v t := by
  induction h with
  | non => exact .non
  | bl b => exact .bl b
  | int i => exact .int i
  | str z h => exact .str z h
  | tup a xs ts h l z e ih => exact .tup a xs ts (k _ _ h fun ps y => by cases y) l z ih
  | lst a xs h => exact .lst a xs (k _ _ h fun ps y => by cases y)
  | dic a xs h => exact .dic a xs (k _ _ h fun ps y => by cases y)
theorem isTh_fr {T : List Addr} {H H' : Hp} (t : Tabs T H) (f : Fr T H H') {v : V} {x : Th} (h : IsTh H v x) : IsTh H' v x := isTh_keep (fun _ _ e n => t.at f e n) h
/-- both at once -/
structure Go (T : List Addr) (H H' : Hp) : Prop where
  fr : Fr T H H'
  tb : Tabs T H'
theorem Go.refl {T : List Addr} {H : Hp} (t : Tabs T H) : Go T H H := ⟨Fr.refl, t⟩
theorem Go.trans {T : List Addr} {H1 H2 H3 : Hp} (a : Go T H1 H2) (b : Go T H2 H3) : Go T H1 H3 := ⟨a.fr.trans b.fr, b.tb⟩
theorem Go.new {T : List Addr} {H H1 : Hp} {p : Addr} {o : HO} (g : Go T H H1) (n : H1 p = none) : Go T H (upd H1 p o) := ⟨g.fr.trans (Fr.new n), g.tb.new n⟩
theorem Go.tab {T : List Addr} {H H1 H2 : Hp} {P : Addr} (g : Go T H H1) (hP : P ∈ T) (h : Tabbed P H1 H2) : Go T H H2 := ⟨g.fr.trans (Fr.tab hP h), g.tb.tab h⟩
theorem Go.th {T : List Addr} {H H' : Hp} (t : Tabs T H) (g : Go T H H') {v : V} {x : Th} (h : IsTh H v x) : IsTh H' v x := isTh_fr t g.fr h

/-! ### kinds -/
def Th.isStr : Th → Bool | .str _ => true | _ => false
def Th.isTup : Th → Bool | .tup _ => true | _ => false
def Th.isInt : Th → Bool | .int _ => true | .bl _ => true | _ => false
def Th.isBl : Th → Bool | .bl _ => true | _ => false
theorem ty_of {K : PySem.W.Frag} {H : Hp} {v : V} {t : Th} (h : IsTh H v t) : ∃ ty, TyX K H v ty ∧ PySem.W.kitOne K ty (.type "str") = some t.isStr ∧ PySem.W.kitOne K ty (.type "tuple") = some t.isTup ∧ PySem.W.kitOne K ty (.type "int") = some t.isInt ∧ PySem.W.kitOne K ty (.type "bool") = some t.isBl := by
  cases h with
  | non => exact ⟨_, .base .non, by rfl, by rfl, by rfl, by rfl⟩
  | bl b => exact ⟨_, .base (.bl b), by rfl, by rfl, by rfl, by rfl⟩
  | int i => exact ⟨_, .base (.int i), by rfl, by rfl, by rfl, by rfl⟩
  | str z h => exact ⟨_, .base (.str _), by rfl, by rfl, by rfl, by rfl⟩
  | tup a xs ts h l z e => exact ⟨_, .base (.tup h), by rfl, by rfl, by rfl, by rfl⟩
  | lst a xs h => exact ⟨_, .base (.lst h), by rfl, by rfl, by rfl, by rfl⟩
  | dic a xs h => exact ⟨_, .base (.dK h), by rfl, by rfl, by rfl, by rfl⟩
/-- isinstance(v, kind) at a thing -/
theorem isi_th {K : PySem.W.Frag} {H : Hp} {v : V} {t : Th} {Q : VK} (h : IsTh H v t) :
    (Q (.bl t.isStr) H → ∃ (v' c : V) (ty cv : Value) (b : Bool), [v, V.ty "str"] = [v', c] ∧ ClsV c cv ∧ TyX K H v' ty ∧ PySem.W.kitOne K ty cv = some b ∧ Q (.bl b) H) := by
  intro q
  obtain ⟨ty, y, e, _⟩ := ty_of (K := K) h
  exact ⟨v, .ty "str", ty, .type "str", _, rfl, .ty "str", y, e, q⟩
end Th

set_option Elab.async false
set_option linter.all false
set_option maxRecDepth 100000
set_option maxHeartbeats 2000000
/-! kinds: is_number, is_index, is_tuple_of, is_told, is_string_among. -/
namespace Kd
open PySem PySem.Spec PyProof.Rows L2 Sx Rp Dw NdefX GxR Rw Th
theorem sc1 : FnScope ["thing"] ["thing"] (defScope sIsNumber) := ⟨rfl, rfl, rfl, by decide +kernel, rfl, by decide +kernel, by decide +kernel⟩
theorem sc2 : FnScope ["thing", "many"] ["thing", "many"] (defScope sIsIndex) := ⟨rfl, rfl, rfl, by decide +kernel, rfl, by decide +kernel, by decide +kernel⟩
theorem sc3 : FnScope ["thing", "many"] ["thing", "many"] (defScope sIsTupleOf) := ⟨rfl, rfl, rfl, by decide +kernel, rfl, by decide +kernel, by decide +kernel⟩
theorem sc4 : FnScope ["thing", "word", "many"] ["thing", "word", "many"] (defScope sIsTold) := ⟨rfl, rfl, rfl, by decide +kernel, rfl, by decide +kernel, by decide +kernel⟩
theorem sc5 : FnScope ["thing", "names"] ["thing", "names"] (defScope sIsAmong) := ⟨rfl, rfl, rfl, by decide +kernel, rfl, by decide +kernel, by decide +kernel⟩
def _root_.Th.Th.isNum (t : Th) : Bool := t.isInt && !t.isBl
def idxT (t : Th) (m : Int) : Bool := match t with | .int i => decide (0 ≤ i) && decide (i < m) | _ => false
def tupOf (t : Th) (n : Int) : Bool := match t with | .tup ts => decide ((ts.length : Int) = n) | _ => false
def toldT (t : Th) (w : Str) (n : Int) : Bool := match t with | .tup (.str z :: ts) => decide (((ts.length + 1 : Nat) : Int) = n) && decide ((⟨z.toArray⟩ : Str) = w) | _ => false
def amongT (t : Th) (xs : List V) : Bool := match t with | .str z => inV (.str ⟨z.toArray⟩) xs | _ => false
theorem at0 {x : V} {r : List V} : atI (x :: r) 0 = some x := atI_nat (j := 0) rfl
theorem at1 {x y : V} {r : List V} : atI (x :: y :: r) 1 = some y := atI_nat (j := 1) rfl
theorem at2 {x y z : V} {r : List V} : atI (x :: y :: z :: r) 2 = some z := atI_nat (j := 2) rfl
def AllStr (xs : List V) : Prop := ∀ x ∈ xs, ∃ s, x = V.str s
section
variable {P : Program} {w : World} {K : PySem.W.Frag} {mg : Str → Option Value} {base : Heap}
def spNumber : Sp := fun vs H Q _ => ∃ v t, vs = [v] ∧ IsTh H v t ∧ Q (.bl t.isNum) H
theorem ok_number {f : Addr} {fd : FuncData} (F : Fun K "is_number" "is_number" sIsNumber f fd) (mi : mg "isinstance" = none) (mI : mg "int" = none) (mB : mg "bool" = none) : FnOk P w K mg base CX0 1 f fd ["thing"] spNumber := by
  refine F.ok sc1 (fun vs H Q E h => ?_) (fun cdv A outer s H vs Q E hr h => ?_)
  · obtain ⟨v, t, rfl, _⟩ := h
    rfl
  · obtain ⟨v, t, rfl, h, q⟩ := h
    refine ⟨_, pss_one (ps_ret (pe_and (pe_callB call_isi (by rfl) mi (by decide +kernel) (pa_cons (pv 0) (pa_cons (pe_bltn (v := .ty "int") (by rfl) mI (by decide +kernel) rfl) pa_nil))) (pe_one (pe_not (pe_callB call_isi (by rfl) mi (by decide +kernel) (pa_cons (pv 0) (pa_cons (pe_bltn (v := .ty "bool") (by rfl) mB (by decide +kernel) rfl) pa_nil))))))), ?_⟩
    obtain ⟨ty, y, e1, e2, e3, e4⟩ := ty_of (K := K) h
    refine ⟨_, rfl, v, .ty "int", ty, .type "int", _, rfl, .ty "int", y, e3, _, rfl, ?_⟩
    unfold Th.isNum at q
    cases hb : t.isInt with
    | true =>
      rw [hb] at q
      exact iteT' rfl ⟨_, rfl, v, .ty "bool", ty, .type "bool", _, rfl, .ty "bool", y, e4, _, rfl, q⟩
    | false =>
      rw [hb] at q
      exact iteF' rfl q
def spIndex : Sp := fun vs H Q _ => ∃ v t m, vs = [v, .int m] ∧ IsTh H v t ∧ Q (.bl (idxT t m)) H
theorem ok_index {f g : Addr} {fd gd : FuncData} (F : Fun K "is_index" "is_index" sIsIndex f fd) (G : FnOk P w K mg base CX0 1 g gd ["thing"] spNumber) (mG : mg "is_number" = some (.ref g)) (kG : PySem.W.keepIn K (.ref g) = true) (bG : Binds K gd ["thing"] []) : FnOk P w K mg base CX0 2 f fd ["thing", "many"] spIndex := by
  refine F.ok sc2 (fun vs H Q E h => ?_) (fun cdv A outer s H vs Q E hr h => ?_)
  · obtain ⟨v, t, m, rfl, _⟩ := h
    rfl
  · obtain ⟨v, t, m, rfl, h, q⟩ := h
    refine ⟨_, pss_one (ps_ret (pe_and (pe_call G hr (by rfl) mG kG bG .nil pass0 (pa_cons (pv 0) pa_nil)) (pe_one (pe_chain op_le op_lt pe_int (pv 0) (pv 1))))), ?_⟩
    refine ⟨_, rfl, v, t, rfl, h, _, rfl, ?_⟩
    cases h with
    | int i =>
      refine iteT' rfl ⟨_, rfl, _, _, rfl, rfl, _, rfl, ?_⟩
      have q : Q (.bl (decide (0 ≤ i) && decide (i < m))) H := q
      cases h0 : decide (0 ≤ i) with
      | true =>
        rw [h0] at q
        exact iteT' rfl ⟨_, rfl, _, _, rfl, rfl, q⟩
      | false =>
        rw [h0] at q
        exact iteF' rfl q
    | _ => exact iteF' rfl q
def spTupleOf : Sp := fun vs H Q _ => ∃ v t m, vs = [v, .int m] ∧ IsTh H v t ∧ Q (.bl (tupOf t m)) H
theorem ok_tupleOf {f : Addr} {fd : FuncData} (F : Fun K "is_tuple_of" "is_tuple_of" sIsTupleOf f fd) (mi : mg "isinstance" = none) (mT : mg "tuple" = none) (ml : mg "len" = none) : FnOk P w K mg base CX0 1 f fd ["thing", "many"] spTupleOf := by
  refine F.ok sc3 (fun vs H Q E h => ?_) (fun cdv A outer s H vs Q E hr h => ?_)
  · obtain ⟨v, t, m, rfl, _⟩ := h
    rfl
  · obtain ⟨v, t, m, rfl, h, q⟩ := h
    refine ⟨_, pss_one (ps_ret (pe_and (pe_callB call_isi (by rfl) mi (by decide +kernel) (pa_cons (pv 0) (pa_cons (pe_bltn (v := .ty "tuple") (by rfl) mT (by decide +kernel) rfl) pa_nil))) (pe_one (pe_cmpR op_eq (pe_callB call_len_seq (by rfl) ml PySem.boot_len (pa_cons (pv 0) pa_nil)) (pv 1) (nomark _))))), ?_⟩
    obtain ⟨ty, y, e1, e2, e3, e4⟩ := ty_of (K := K) h
    refine ⟨_, rfl, v, .ty "tuple", ty, .type "tuple", _, rfl, .ty "tuple", y, e2, _, rfl, ?_⟩
    cases h with
    | tup a xs ts h l z e =>
      refine iteT' rfl ⟨_, rfl, a, xs, rfl, .inr (SqT.of h), _, rfl, rfl, ?_⟩
      have e9 : decide (V.int (xs.length : Int) = V.int m) = decide ((ts.length : Int) = m) := by
        rw [l]
        by_cases hh : (ts.length : Int) = m
        · rw [decide_eq_true hh, hh, decide_eq_true rfl]
        · rw [decide_eq_false hh, decide_eq_false (fun y => hh (by injection y))]
      rw [e9]
      exact q
    | _ => exact iteF' rfl q
def spTold : Sp := fun vs H Q _ => ∃ v t wd m, vs = [v, .str wd, .int m] ∧ IsTh H v t ∧ 0 < m ∧ Q (.bl (toldT t wd m)) H
theorem ok_told {f g : Addr} {fd gd : FuncData} (F : Fun K "is_told" "is_told" sIsTold f fd) (mi : mg "isinstance" = none) (mS : mg "str" = none) (G : FnOk P w K mg base CX0 1 g gd ["thing", "many"] spTupleOf) (mG : mg "is_tuple_of" = some (.ref g)) (kG : PySem.W.keepIn K (.ref g) = true) (bG : Binds K gd ["thing", "many"] []) : FnOk P w K mg base CX0 2 f fd ["thing", "word", "many"] spTold := by
  refine F.ok sc4 (fun vs H Q E h => ?_) (fun cdv A outer s H vs Q E hr h => ?_)
  · obtain ⟨v, t, wd, m, rfl, _⟩ := h
    rfl
  · obtain ⟨v, t, wd, m, rfl, h, m0, q⟩ := h
    refine ⟨_, pss_one (ps_ret (pe_and (pe_call G hr (by rfl) mG kG bG .nil pass0 (pa_cons (pv 0) (pa_cons (pv 2) pa_nil)))
      (pe_and (pe_callB call_isi (by rfl) mi (by decide +kernel) (pa_cons (pe_ix ix_tup (pv 0) pe_int (fun _ _ => rfl)) (pa_cons (pe_bltn (v := .ty "str") (by rfl) mS (by decide +kernel) rfl) pa_nil)))
      (pe_one (pe_cmpR op_eq (pe_ix ix_tup (pv 0) pe_int (fun _ _ => rfl)) (pv 1) (nomark _)))))), ?_⟩
    refine ⟨_, rfl, _, rfl, v, t, m, rfl, h, _, rfl, ?_⟩
    cases h with
    | tup a xs ts h l z e =>
      by_cases hm : (ts.length : Int) = m
      · refine iteT' (decide_eq_true hm) ?_
        cases ts with
        | nil => simp at hm; omega
        | cons t0 tr =>
          cases xs with
          | nil => simp at l
          | cons x0 xr =>
            have h0 := e 0 x0 t0 rfl rfl
            obtain ⟨ty, y, e1, _⟩ := ty_of (K := K) h0
            refine ⟨_, rfl, a, _, _, x0, rfl, rfl, SqT.of h, at0, x0, .ty "str", ty, .type "str", _, rfl, .ty "str", y, e1, _, rfl, ?_⟩
            unfold toldT at q
            cases h0 with
            | str z0 hz =>
              simp only [decide_eq_true (show (((tr.length + 1 : Nat) : Int) = m) from hm), Bool.true_and] at q
              refine iteT' rfl ⟨_, rfl, a, _, _, _, rfl, rfl, SqT.of h, at0, _, rfl, rfl, ?_⟩
              have e9 : decide (V.str (⟨z0.toArray⟩ : Str) = V.str wd) = decide ((⟨z0.toArray⟩ : Str) = wd) := by
                by_cases hh : (⟨z0.toArray⟩ : Str) = wd
                · rw [decide_eq_true hh, hh, decide_eq_true rfl]
                · rw [decide_eq_false hh, decide_eq_false (fun y => hh (by injection y))]
              rw [e9]
              exact q
            | _ => exact iteF' rfl q
      · refine iteF' (decide_eq_false hm) ?_
        have e9 : toldT (.tup ts) wd m = false := by
          unfold toldT
          split
          · rename_i z0 tr he
            injection he with he
            subst he
            rw [decide_eq_false (by simpa using hm), Bool.false_and]
          · rfl
        rw [e9] at q
        exact q
    | _ => exact iteF' rfl q
def spAmong : Sp := fun vs H Q _ => ∃ v t a xs, vs = [v, .ref a] ∧ IsTh H v t ∧ H a = some (.tup xs) ∧ AllStr xs ∧ Q (.bl (amongT t xs)) H
theorem flat_strs {xs : List V} (h : AllStr xs) : xs.all flatV = true := List.all_eq_true.mpr fun x hx => by
  obtain ⟨s, rfl⟩ := h x hx
  rfl
theorem ok_among {f : Addr} {fd : FuncData} (F : Fun K "is_string_among" "is_string_among" sIsAmong f fd) (mi : mg "isinstance" = none) (mS : mg "str" = none) : FnOk P w K mg base CX0 1 f fd ["thing", "names"] spAmong := by
  refine F.ok sc5 (fun vs H Q E h => ?_) (fun cdv A outer s H vs Q E hr h => ?_)
  · obtain ⟨v, t, a, xs, rfl, _⟩ := h
    rfl
  · obtain ⟨v, t, a, xs, rfl, h, ha, hx, q⟩ := h
    refine ⟨_, pss_one (ps_ret (pe_and (pe_callB call_isi (by rfl) mi (by decide +kernel) (pa_cons (pv 0) (pa_cons (pe_bltn (v := .ty "str") (by rfl) mS (by decide +kernel) rfl) pa_nil))) (pe_one (pe_cmpR op_in_seq (pv 0) (pv 1) (by rfl))))), ?_⟩
    obtain ⟨ty, y, e1, e2, e3, e4⟩ := ty_of (K := K) h
    refine ⟨_, rfl, v, .ty "str", ty, .type "str", _, rfl, .ty "str", y, e1, _, rfl, ?_⟩
    cases h with
    | str z hz => exact iteT' rfl ⟨_, rfl, _, rfl, a, xs, rfl, .inr (SqT.of ha), rfl, flat_strs hx, q⟩
    | _ => exact iteF' rfl q
end
end Kd

set_option Elab.async false
set_option linter.all false
set_option maxRecDepth 100000
set_option maxHeartbeats 2000000
/-! words: is_name; all(..) over a tuple. -/
namespace Nm
open PySem PySem.Spec PyProof.Rows L2 Sx Rp Dw NdefX GxR Rw Th Kd Gx
theorem len_arr (z : List Nat) : (⟨z.toArray⟩ : Str).length = z.length := by show z.toArray.size = _; simp
/-- a def whose code object stands at c -/
structure FunT (K : PySem.W.Frag) (x qual : Str) (st : Stmt) (f c : Addr) (fd : FuncData) : Prop where
  ex : ∃ (oc : Value) (od : Option Addr) (kw dc md : Value) (an : Option Addr) (ct : Value) (sl : Array (Option Value)),
    fd = PySem.W.fnOf x qual (defArgs st) (defBody st) (defScope st) .none kw dc md an (.ref c) ct ∧ K.lookup f = some ⟨oc, od, .func fd, sl⟩ ∧ PySem.W.codeIn K (.ref c) qual = true
  kp : PySem.W.keepIn K (.ref f) = true
theorem FunT.ok {P : Program} {w : World} {K : PySem.W.Frag} {mg : Str → Option Value} {base : Heap} {x qual : Str} {st : Stmt} {f c : Addr} {fd : FuncData} {N ps : List Str} {k : Nat} {sp : Sp} (F : FunT K x qual st f c fd) (S : FnScope N ps (defScope st)) (len : ∀ vs H Q E, sp vs H Q E → vs.length = ps.length)
    (body : ∀ (A : Around) (outer : List Env) (s : Shared) (H : Hp) (vs : List V) (Q : VK) (E : XK), Room k (A.deeper (envOfC qual (defScope st) s.heap.objs.size f (.ref c))) → sp vs H Q E → ∃ t, PSs (cxOf CX0 P w K mg base N qual (defScope st) f (.ref c) A outer s H E).nox (defBody st) t ∧ t { nx := fun _ H' => Q .non H', rt := Q } (start N vs) H) :
    FnOk P w K mg base CX0 (k + 1) f fd ps sp := by
  obtain ⟨oc, od, kw, dc, md, an, ct, sl, rfl, lk, hc⟩ := F.ex
  exact fn_of lk hc S len fun A outer s H vs Q E r h => let ⟨t, h1, h2⟩ := body A outer s H vs Q E r h; ⟨t, h1.nox, h2⟩
def low (c : Nat) : Bool := !decide (([c] : List Nat) < (Str.ofString "a").cps.toList) && !decide ((Str.ofString "z").cps.toList < [c])
def isName (z : List Nat) : Bool := (decide (1 ≤ z.length) && decide (z.length ≤ 8)) && (z.all low && !inV (.str ⟨z.toArray⟩) keptV)
def nameT : Th → Bool | .str z => isName z | _ => false
/-- what a def that judges one thing promises -/
def spB (T : List Addr) (f : Th → Bool) : Sp := fun vs H Q _ => ∃ v t, vs = [v] ∧ IsTh H v t ∧ Tabs T H ∧ ∀ H', Go T H H' → Q (.bl (f t)) H'
theorem scNm : FnScope ["thing"] ["thing"] (defScope sIsName) := ⟨rfl, rfl, rfl, by decide +kernel, rfl, by decide +kernel, by decide +kernel⟩
section
variable {P : Program} {w : World} {K : PySem.W.Frag} {mg : Str → Option Value} {base : Heap} {T : List Addr}
theorem ok_name {f c Tn kp : Addr} {fd : FuncData} (F : FunT K "is_name" "is_name" sIsName f c fd) (mi : mg "isinstance" = none) (mst : mg "str" = none) (mal : mg "all" = none) (ml : mg "len" = none) (TB : TabB base mg c Tn) (hT : Tn ∈ T)
    (mk : mg "KEPT" = some (.ref kp)) (kt : ∀ H, SqT K H kp keptV) : FnOk P w K mg base CX0 2 f fd ["thing"] (spB T nameT) := by
  refine F.ok scNm (fun vs H Q E h => ?_) (fun A outer s H vs Q E hr h => ?_)
  · obtain ⟨v, t, rfl, _⟩ := h
    rfl
  · obtain ⟨v, t, rfl, h, tb, q⟩ := h
    refine ⟨_, pss_cons (ps_if (PW.pt (pw_or (pt_not (pt_val (pe_callB call_isi (by rfl) mi (by decide +kernel) (pa_cons (pv 0) (pa_cons (pe_bltn (v := .ty "str") (by rfl) mst (by decide +kernel) rfl) pa_nil))))) (pw_or1 (pt_not (pt_chain op_le op_le pe_int (pe_callB call_len_str (by rfl) ml PySem.boot_len (pa_cons (pv 0) pa_nil)) pe_int))))) (pss_one (ps_ret pe_bl)) pss_nil)
      (pss_one (ps_ret (pe_and (pe_allS hr (by rfl) mal (by decide +kernel) TB rfl ⟨rfl, rfl, by decide +kernel, rfl, rfl, fun y hy hf => by simp at hy; rcases hy with rfl | rfl <;> cases hf⟩ (pv 0) (Gn.elt_in rfl rfl) (fun _ => rfl))
        (pe_one (pe_cmpR op_notIn_seq (pv 0) (pe_glob (v := .ref kp) (by rfl) mk rfl) (by rfl)))))), ?_⟩
    obtain ⟨ty, y, e1, _⟩ := ty_of (K := K) h
    refine ⟨_, rfl, v, .ty "str", ty, .type "str", _, rfl, .ty "str", y, e1, _, rfl, ?_⟩
    have g0 := Go.refl tb
    cases h with
    | str z hl' =>
      obtain ⟨hl, _⟩ := hl'
      refine iteF' rfl ?_
      have lz : (⟨z.toArray⟩ : Str).length ≤ sizeLine := by rw [len_arr]; exact Nat.le_trans hl (by decide)
      refine ⟨_, rfl, ⟨z.toArray⟩, rfl, lz, _, _, rfl, rfl, _, rfl, ?_⟩
      rw [len_arr]
      by_cases h1 : 1 ≤ z.length
      · refine iteT' (decide_eq_true (by omega)) ⟨_, _, rfl, rfl, _, rfl, ?_⟩
        by_cases h8 : z.length ≤ 8
        · have e8 : decide ((z.length : Int) ≤ 8) = true := decide_eq_true (by omega)
          rw [e8]
          refine iteF' rfl ⟨_, rfl, _, rfl, tb _ hT, fun H2 h2 => ⟨_, rfl, ?_⟩⟩
          have q2 : Q (.bl (isName z)) H2 := q H2 (g0.tab hT h2)
          unfold isName at q2
          rw [decide_eq_true h1, decide_eq_true h8] at q2
          simp only [Bool.true_and] at q2
          have el : (z.toArray.toList.all fun c => !decide (([c] : List Nat) < (Str.ofString "a").cps.toList) && !decide ((Str.ofString "z").cps.toList < [c])) = z.all low := by rw [List.toList_toArray]; rfl
          show if (z.toArray.toList.all _) = true then _ else _
          rw [el]
          cases ea : z.all low with
          | false =>
            rw [ea] at q2
            exact iteF' rfl q2
          | true =>
            rw [ea] at q2
            exact iteT' rfl ⟨_, rfl, kp, keptV, rfl, .inr (kt _), rfl, by decide +kernel, q2⟩
        · have e8 : decide ((z.length : Int) ≤ 8) = false := decide_eq_false (by omega)
          rw [e8]
          refine iteT' rfl ?_
          have q2 : Q (.bl (isName z)) H := q H g0
          unfold isName at q2
          rw [decide_eq_false h8, Bool.and_false, Bool.false_and] at q2
          exact q2
      · have e1 : decide ((1 : Int) ≤ (z.length : Int)) = false := decide_eq_false (by omega)
        refine iteF' e1 ⟨_, rfl, iteT' rfl ?_⟩
        have q2 : Q (.bl (isName z)) H := q H g0
        unfold isName at q2
        rw [decide_eq_false h1, Bool.false_and, Bool.false_and] at q2
        exact q2
    | _ => exact iteT' rfl (iteT' rfl (q H g0))
end

/-- all(..) over a tuple -/
theorem all_tup {K : PySem.W.Frag} {a : Addr} {xs : List V} {g : TG} {te : TE} {Qt Qf : Hp → Prop} {σ0 : L2.St} {H2 : Hp} (Sv : L2.St → Prop) (Iv : Nat → Hp → Prop) (s0 : Sv σ0) (h0 : Iv 0 H2) (ha : ∀ i H, Iv i H → SqT K H a xs)
    (hs : ∀ i x σ H, xs[i]? = some x → Sv σ → Iv i H → g x σ H fun σ2 H3 => te σ2 H3 fun v H4 => (v = .bl true ∧ (Sv σ2 ∧ Iv (i + 1) H4)) ∨ (v = .bl false ∧ Qf H4)) (he : ∀ H, Iv xs.length H → Qt H) :
    ∃ (n0 : Nat) (Wk : Nat → L2.St → Hp → Prop), Wk 0 σ0 H2 ∧ ∀ i σ' H', i ≤ n0 → Wk i σ' H' → ((Itt K a).stop i H' ∧ Qt H') ∨
      ((Itt K a).go i H' ∧ i < n0 ∧ ∀ x H3, (Itt K a).yld i H' x H3 → g x σ' H3 fun σ2 H4 => te σ2 H4 fun v H5 => (v = .bl true ∧ Wk (i + 1) σ2 H5) ∨ (v = .bl false ∧ Qf H5)) := by
  refine ⟨xs.length, fun i σ H => Sv σ ∧ Iv i H, ⟨s0, h0⟩, ?_⟩
  rintro i σ H hi ⟨sv, iv⟩
  have hq := ha i H iv
  by_cases hlt : i < xs.length
  · refine .inr ⟨⟨xs, xs[i], hq, by simp [hlt]⟩, hlt, fun x H3 y => ?_⟩
    obtain ⟨rfl, y⟩ := y
    exact hs i x σ _ (y xs hq) sv iv
  · have e : i = xs.length := by omega
    subst e
    exact .inl ⟨⟨xs, hq, Nat.le_refl _⟩, he H iv⟩
/-- tuple(..) over a tuple -/
theorem tup_tup {K : PySem.W.Frag} {a : Addr} {xs : List V} {g : TG} {te : TE} {R : Addr → Hp → List V → Prop} {σ0 : L2.St} {H2 : Hp} (Sv : L2.St → Prop) (Iv : Nat → List V → Hp → Prop) (s0 : Sv σ0) (h0 : Iv 0 [] H2) (ha : ∀ i ys H, Iv i ys H → SqT K H a xs)
    (hs : ∀ i x ys σ H, xs[i]? = some x → Sv σ → Iv i ys H → g x σ H fun σ2 H3 => te σ2 H3 fun v H4 => ys.length < sizeLine ∧ (Sv σ2 ∧ Iv (i + 1) (ys ++ [v]) H4)) (he : ∀ ys H, Iv xs.length ys H → ys.length ≤ sizeLine ∧ ∀ p, H p = none → R p H ys) :
    ∃ (n0 : Nat) (Wk : Nat → List V → L2.St → Hp → Prop), Wk 0 [] σ0 H2 ∧ ∀ i ys σ' H', i ≤ n0 → Wk i ys σ' H' → ((Itt K a).stop i H' ∧ ys.length ≤ sizeLine ∧ ∀ p, H' p = none → R p H' ys) ∨
      ((Itt K a).go i H' ∧ i < n0 ∧ ∀ x H3, (Itt K a).yld i H' x H3 → g x σ' H3 fun σ2 H4 => te σ2 H4 fun v H5 => ys.length < sizeLine ∧ Wk (i + 1) (ys ++ [v]) σ2 H5) := by
  refine ⟨xs.length, fun i ys σ H => Sv σ ∧ Iv i ys H, ⟨s0, h0⟩, ?_⟩
  rintro i ys σ H hi ⟨sv, iv⟩
  have hq := ha i ys H iv
  by_cases hlt : i < xs.length
  · refine .inr ⟨⟨xs, xs[i], hq, by simp [hlt]⟩, hlt, fun x H3 y => ?_⟩
    obtain ⟨rfl, y⟩ := y
    exact hs i x ys σ _ (y xs hq) sv iv
  · have e : i = xs.length := by omega
    subst e
    exact .inl ⟨⟨xs, hq, Nat.le_refl _⟩, he ys H iv⟩

/-! ### are_names -/
def strsOf (ts : List Th) : List Str := ts.map fun t => match t with | .str z => (⟨z.toArray⟩ : Str) | _ => Str.empty
def namesT (n : Nat) (t : Th) : Bool := match t with | .tup ts => (decide (1 ≤ ts.length) && decide (ts.length ≤ n)) && (ts.all nameT && decide (strsOf ts).Nodup) | _ => false
theorem name_str {t : Th} (h : nameT t = true) : ∃ z, t = .str z := by
  cases t with
  | str z => exact ⟨z, rfl⟩
  | _ => cases h
theorem strs_of {H : Hp} : ∀ {xs : List V} {ts : List Th}, xs.length = ts.length → (∀ (i : Nat) (v : V) (t : Th), xs[i]? = some v → ts[i]? = some t → IsTh H v t) → (∀ t ∈ ts, ∃ z, t = Th.str z) → xs = (strsOf ts).map V.str
  | [], [], _, _, _ => rfl
  | [], _ :: _, l, _, _ => by simp at l
  | _ :: _, [], l, _, _ => by simp at l
  | x :: xs, t :: ts, l, e, a => by
    have ih := strs_of (xs := xs) (ts := ts) (by simpa using l) (fun i v t h1 h2 => e (i + 1) v t h1 h2) (fun t ht => a t (List.mem_cons_of_mem _ ht))
    obtain ⟨z, rfl⟩ := a t List.mem_cons_self
    have h0 := e 0 x (.str z) rfl rfl
    cases h0 with
    | str _ _ =>
      show _ :: xs = _ :: (strsOf ts).map V.str
      rw [← ih]
/-- what a def that judges one thing by a number promises -/
def spBn (T : List Addr) (f : Nat → Th → Bool) : Sp := fun vs H Q _ => ∃ v t n, vs = [v, .int ((n : Nat) : Int)] ∧ n < 1000 ∧ IsTh H v t ∧ Tabs T H ∧ ∀ H', Go T H H' → Q (.bl (f n t)) H'
theorem scAr : FnScope ["thing", "most"] ["thing", "most"] (defScope sAreNames) := ⟨rfl, rfl, rfl, by decide +kernel, rfl, by decide +kernel, by decide +kernel⟩
def genScope (e : Expr) : Scope := match e with | .GeneratorExp _ _ sc _ => sc | _ => defScope sAreNames
section
variable {P : Program} {w : World} {K : PySem.W.Frag} {mg : Str → Option Value} {base : Heap} {T : List Addr}
theorem ok_names {f c Tn g : Addr} {fd gd : FuncData} (F : FunT K "are_names" "are_names" sAreNames f c fd) (mi : mg "isinstance" = none) (mt : mg "tuple" = none) (mal : mg "all" = none) (ml : mg "len" = none) (ms : mg "set" = none) (TB : TabB base mg c Tn) (hT : Tn ∈ T)
    (G : FnOk P w K mg base CX0 2 g gd ["thing"] (spB T nameT)) (mG : mg "is_name" = some (.ref g)) (kG : PySem.W.keepIn K (.ref g) = true) (bG : Binds K gd ["thing"] []) : FnOk P w K mg base CX0 4 f fd ["thing", "most"] (spBn T namesT) := by
  refine F.ok scAr (fun vs H Q E h => ?_) (fun A outer s H vs Q E hr h => ?_)
  · obtain ⟨v, t, n, rfl, _⟩ := h
    rfl
  · obtain ⟨v, t, n, rfl, hn, h, tb, q⟩ := h
    refine ⟨_, pss_cons (ps_if (PW.pt (pw_or (pt_not (pt_val (pe_callB call_isi (by rfl) mi (by decide +kernel) (pa_cons (pv 0) (pa_cons (pe_bltn (v := .ty "tuple") (by rfl) mt (by decide +kernel) rfl) pa_nil))))) (pw_or1 (pt_not (pt_chain op_le op_le pe_int (pe_callB call_len_seq (by rfl) ml PySem.boot_len (pa_cons (pv 0) pa_nil)) (pv 1)))))) (pss_one (ps_ret pe_bl)) pss_nil)
      (pss_one (ps_ret (pe_and (pe_allG (N' := ["name"]) (cap := [none]) hr (by rfl) mal (by decide +kernel) TB rfl (gsc_by (N := ["thing", "most"]) (sc := defScope sAreNames) (by decide +kernel)) (pi_tup (pv 0)) (fun _ _ _ _ _ _ _ => pg_name (i := 0) (show (["name"] : List Str).Nodup by decide) rfl (Or.inl rfl)) (fun _ _ _ _ _ _ _ hr' => pe_call G hr' (by rfl) mG kG bG .nil pass0 (pa_cons (pv 0) pa_nil)) (fun _ => rfl))
        (pe_one (pe_cmpR op_eq (Ss.pe_lenSetS rfl (by rfl) ml (by rfl) ms (pv 0)) (pe_callB call_len_seq (by rfl) ml PySem.boot_len (pa_cons (pv 0) pa_nil)) (nomark _)))))), ?_⟩
    obtain ⟨ty, y, e1, e2, _⟩ := ty_of (K := K) h
    refine ⟨_, rfl, v, .ty "tuple", ty, .type "tuple", _, rfl, .ty "tuple", y, e2, _, rfl, ?_⟩
    have g0 := Go.refl tb
    cases h with
    | tup a xs ts ha l z e =>
      refine iteF' rfl ⟨_, rfl, a, xs, rfl, .inr (SqT.of ha), _, _, rfl, rfl, _, rfl, ?_⟩
      by_cases h1 : 1 ≤ ts.length
      · refine iteT' (decide_eq_true (by omega)) ⟨_, rfl, _, _, rfl, rfl, _, rfl, ?_⟩
        by_cases h8 : ts.length ≤ n
        · have e8 : decide ((xs.length : Int) ≤ (n : Int)) = true := decide_eq_true (by omega)
          rw [e8]
          refine iteF' rfl ?_
          refine ⟨_, rfl, a, rfl, ⟨xs, SqT.of ha⟩, tb _ hT, fun H2 h2 => ?_⟩
          have g2 := g0.tab hT h2
          have q0 : ∀ H', Go T H H' → Q (.bl (ts.all nameT && decide (strsOf ts).Nodup)) H' := fun H' g' => by
            have q1 := q H' g'
            unfold namesT at q1
            simp only [decide_eq_true h1, decide_eq_true h8, Bool.true_and] at q1
            exact q1
          refine all_tup (xs := xs) (fun σ => ∃ o, σ = [o]) (fun i G' => Go T H G' ∧ ∀ t ∈ ts.take i, nameT t = true) ⟨none, rfl⟩ ⟨g2, fun t ht => by simp at ht⟩ (fun i G' h => SqT.of (tb.at h.1.fr ha fun ps y => by cases y)) (fun i x σ G' hx hσ h => ?_) (fun G' h => ?_)
          · obtain ⟨o, rfl⟩ := hσ
            obtain ⟨g3, al⟩ := h
            have hi : i < ts.length := by rw [← l]; exact (List.getElem?_eq_some_iff.mp hx).1
            obtain ⟨t, ht⟩ : ∃ t, ts[i]? = some t := ⟨ts[i], List.getElem?_eq_getElem hi⟩
            have hth := Go.th tb g3 (e i x t hx ht)
            refine ⟨_, rfl, x, t, rfl, hth, g3.tb, fun H5 g5 => ?_⟩
            cases hb : nameT t with
            | true =>
              refine .inl ⟨rfl, ⟨_, rfl⟩, g3.trans g5, fun t' ht' => ?_⟩
              rw [List.take_add_one, ht] at ht'
              rcases List.mem_append.mp ht' with h' | h'
              · exact al t' h'
              · have e' : t' = t := by simpa using h'
                rw [e']; exact hb
            | false =>
              refine .inr ⟨rfl, ?_⟩
              have q1 := q0 H5 (g3.trans g5)
              have ea : ts.all nameT = false := by
                cases ha' : ts.all nameT with
                | false => rfl
                | true => rw [List.all_eq_true.mp ha' t (List.mem_of_getElem? ht)] at hb; cases hb
              rw [ea, Bool.false_and] at q1
              exact ⟨_, rfl, iteF' rfl q1⟩
          · obtain ⟨g3, al⟩ := h
            rw [l, List.take_length] at al
            have ea : ts.all nameT = true := List.all_eq_true.mpr al
            have ex := strs_of l e fun t ht => name_str (al t ht)
            have ha3 := tb.at g3.fr ha (fun ps y => by cases y)
            refine ⟨_, rfl, iteT' rfl ?_⟩
            have ls : (strsOf ts).length = ts.length := by unfold strsOf; rw [List.length_map]
            refine ⟨_, rfl, a, strsOf ts, rfl, .inr (SqT.of (by rw [← ex]; exact ha3)), by omega, _, rfl, a, xs, rfl, .inr (SqT.of ha3), rfl, ?_⟩
            have q1 := q0 G' g3
            rw [ea, Bool.true_and] at q1
            have e9 : decide (V.int ((Ss.cnt (strsOf ts) (strsOf ts).length : Nat) : Int) = V.int (xs.length : Int)) = decide (strsOf ts).Nodup := by
              have cf := Ss.cnt_full (xs := strsOf ts) (strsOf ts).length (Nat.le_refl _)
              rw [List.take_length] at cf
              by_cases hd : (strsOf ts).Nodup
              · have := cf.mpr hd
                rw [decide_eq_true hd, this, ls, l, decide_eq_true rfl]
              · rw [decide_eq_false hd]
                refine decide_eq_false fun y => hd (cf.mp ?_)
                injection y with y
                omega
            rw [e9]
            exact q1
        · have e8 : decide ((xs.length : Int) ≤ (n : Int)) = false := decide_eq_false (by omega)
          rw [e8]
          refine iteT' rfl ?_
          have q1 := q H g0
          unfold namesT at q1
          simp only [decide_eq_false h8, Bool.and_false, Bool.false_and] at q1
          exact q1
      · refine iteF' (decide_eq_false (by omega)) ⟨_, rfl, iteT' rfl ?_⟩
        have q1 := q H g0
        unfold namesT at q1
        simp only [decide_eq_false h1, Bool.false_and] at q1
        exact q1
    | _ => exact iteT' rfl (iteT' rfl (q H g0))
end
end Nm

set_option Elab.async false
set_option linter.all false
set_option maxRecDepth 100000
set_option maxHeartbeats 2000000
/-! houses: is_call, call_names, answer_names, is_house. -/
namespace Hs
open PySem PySem.Spec PyProof.Rows L2 Sx Rp Dw NdefX GxR Rw Th Kd Gx Nm
def nth (i : Nat) (t : Th) : Th := match t with | .tup ts => ts.getD i .non | _ => .non
def items (t : Th) : List Th := match t with | .tup ts => ts | _ => []
def callT (t : Th) : Bool := toldT t "call" 3 && (nameT (nth 1 t) && namesT 5 (nth 2 t))
def houseT (t : Th) : Bool := toldT t "house" 2 && (((nth 1 t).isTup && (items (nth 1 t)).all callT) && namesT 5 (.tup ((items (nth 1 t)).map (nth 1))))
theorem told_ex {t : Th} {w : Str} {n : Nat} (h : toldT t w (n : Int) = true) : ∃ z ts, t = .tup (.str z :: ts) ∧ ts.length + 1 = n ∧ (⟨z.toArray⟩ : Str) = w := by
  unfold toldT at h
  split at h
  · rename_i z ts
    simp only [Bool.and_eq_true, decide_eq_true_eq] at h
    exact ⟨z, ts, rfl, by omega, h.2⟩
  · cases h
/-- a part of a thing that is told -/
theorem part {H : Hp} {v : V} {t : Th} {w : Str} {n i : Nat} (h : IsTh H v t) (e : toldT t w (n : Int) = true) (hi : i < n) : ∃ a xs x, v = .ref a ∧ H a = some (.tup xs) ∧ atI xs (i : Int) = some x ∧ IsTh H x (nth i t) := by
  obtain ⟨z, ts, rfl, hn, _⟩ := told_ex e
  cases h with
  | tup a xs ts' ha l _ e =>
    have hl : i < xs.length := by rw [l]; simp; omega
    have ht : i < (Th.str z :: ts).length := by simp; omega
    refine ⟨a, xs, xs[i], rfl, ha, atI_nat (List.getElem?_eq_getElem hl), ?_⟩
    refine e i _ _ (List.getElem?_eq_getElem hl) ?_
    show (Th.str z :: ts)[i]? = some ((Th.str z :: ts).getD i .non)
    rw [List.getD_eq_getElem?_getD, List.getElem?_eq_getElem ht]; rfl
theorem part1 {H : Hp} {v : V} {t : Th} {w : Str} {n : Nat} (h : IsTh H v t) (e : toldT t w (n : Int) = true) (hi : 1 < n) : ∃ a xs x, v = .ref a ∧ H a = some (.tup xs) ∧ atI xs 1 = some x ∧ IsTh H x (nth 1 t) := part (i := 1) h e hi
theorem part2 {H : Hp} {v : V} {t : Th} {w : Str} {n : Nat} (h : IsTh H v t) (e : toldT t w (n : Int) = true) (hi : 2 < n) : ∃ a xs x, v = .ref a ∧ H a = some (.tup xs) ∧ atI xs 2 = some x ∧ IsTh H x (nth 2 t) := part (i := 2) h e hi
theorem scCa : FnScope ["thing"] ["thing"] (defScope sIsCall) := ⟨rfl, rfl, rfl, by decide +kernel, rfl, by decide +kernel, by decide +kernel⟩
theorem scCn : FnScope ["house"] ["house"] (defScope sCallNames) := ⟨rfl, rfl, rfl, by decide +kernel, rfl, by decide +kernel, by decide +kernel⟩
theorem scAn : FnScope ["house"] ["house"] (defScope sAnswerNames) := ⟨rfl, rfl, rfl, by decide +kernel, rfl, by decide +kernel, by decide +kernel⟩
theorem scHo : FnScope ["thing"] ["thing"] (defScope sIsHouse) := ⟨rfl, rfl, rfl, by decide +kernel, rfl, by decide +kernel, by decide +kernel⟩
section
variable {P : Program} {w : World} {K : PySem.W.Frag} {mg : Str → Option Value} {base : Heap} {T : List Addr}
theorem ok_call {f g g2 g3 : Addr} {fd gd gd2 gd3 : FuncData} (F : Fun K "is_call" "is_call" sIsCall f fd)
    (G : FnOk P w K mg base CX0 2 g gd ["thing", "word", "many"] spTold) (mG : mg "is_told" = some (.ref g)) (kG : PySem.W.keepIn K (.ref g) = true) (bG : Binds K gd ["thing", "word", "many"] [])
    (G2 : FnOk P w K mg base CX0 2 g2 gd2 ["thing"] (spB T nameT)) (mG2 : mg "is_name" = some (.ref g2)) (kG2 : PySem.W.keepIn K (.ref g2) = true) (bG2 : Binds K gd2 ["thing"] [])
    (G3 : FnOk P w K mg base CX0 4 g3 gd3 ["thing", "most"] (spBn T namesT)) (mG3 : mg "are_names" = some (.ref g3)) (kG3 : PySem.W.keepIn K (.ref g3) = true) (bG3 : Binds K gd3 ["thing", "most"] []) : FnOk P w K mg base CX0 5 f fd ["thing"] (spB T callT) := by
  refine F.ok scCa (fun vs H Q E h => ?_) (fun cdv A outer s H vs Q E hr h => ?_)
  · obtain ⟨v, t, rfl, _⟩ := h
    rfl
  · obtain ⟨v, t, rfl, h, tb, q⟩ := h
    refine ⟨_, pss_one (ps_ret (pe_and (pe_call G (hr.mono (by decide)) (by rfl) mG kG bG .nil pass0 (pa_cons (pv 0) (pa_cons pe_str (pa_cons pe_int pa_nil))))
      (pe_and (pe_call G2 (hr.mono (by decide)) (by rfl) mG2 kG2 bG2 .nil pass0 (pa_cons (pe_ix ix_tup (pv 0) pe_int (fun _ _ => rfl)) pa_nil))
      (pe_one (pe_call G3 hr (by rfl) mG3 kG3 bG3 .nil pass0 (pa_cons (pe_ix ix_tup (pv 0) pe_int (fun _ _ => rfl)) (pa_cons pe_int pa_nil))))))), ?_⟩
    have g0 := Go.refl tb
    refine ⟨_, rfl, v, t, "call", 3, rfl, h, by decide, _, rfl, ?_⟩
    cases e : toldT t "call" 3 with
    | false =>
      have q1 := q H g0
      unfold callT at q1
      rw [e, Bool.false_and] at q1
      exact iteF' rfl q1
    | true =>
      obtain ⟨a, xs, x, rfl, ha, hx, h1⟩ := part1 (n := 3) h e (by decide)
      refine iteT' rfl ⟨_, rfl, a, xs, _, x, rfl, rfl, SqT.of ha, hx, x, nth 1 t, rfl, h1, tb, fun H2 g2 => ⟨_, rfl, ?_⟩⟩
      have h' := Go.th tb g2 h
      cases e1 : nameT (nth 1 t) with
      | false =>
        have q1 := q H2 g2
        unfold callT at q1
        rw [e, e1, Bool.false_and, Bool.and_false] at q1
        exact iteF' rfl q1
      | true =>
        obtain ⟨a', xs', x', e', ha', hx', h2⟩ := part2 (n := 3) h' e (by decide)
        cases e'
        refine iteT' rfl ⟨_, rfl, a, xs', _, x', rfl, rfl, SqT.of ha', hx', x', nth 2 t, 5, rfl, by decide, h2, g2.tb, fun H3 g3 => ?_⟩
        have q1 := q H3 (g2.trans g3)
        unfold callT at q1
        rw [e, e1, Bool.true_and, Bool.true_and] at q1
        exact q1
/-- the second (third) part of each call of a house -/
def spParts (T : List Addr) (j : Nat) : Sp := fun vs H Q _ => ∃ v t, vs = [v] ∧ IsTh H v t ∧ Tabs T H ∧ toldT t "house" 2 = true ∧ (nth 1 t).isTup = true ∧ (items (nth 1 t)).all callT = true ∧ (items (nth 1 t)).length ≤ 100000 ∧
  ∀ p H', Go T H H' → IsTh H' (.ref p) (.tup ((items (nth 1 t)).map (nth j))) → Q (.ref p) H'
theorem ok_callNames {f c Tn : Addr} {fd : FuncData} (F : FunT K "call_names" "call_names" sCallNames f c fd) (mt : mg "tuple" = none) (TB : TabB base mg c Tn) (hT : Tn ∈ T) : FnOk P w K mg base CX0 2 f fd ["house"] (spParts T 1) := by
  refine F.ok scCn (fun vs H Q E h => ?_) (fun A outer s H vs Q E hr h => ?_)
  · obtain ⟨v, t, rfl, _⟩ := h
    rfl
  · obtain ⟨v, t, rfl, h, tb, e, e1, e2, e3, q⟩ := h
    refine ⟨_, pss_one (ps_ret (pe_tupG (N' := ["call"]) (cap := [none]) (k := 0) (te := tOp (rIxT K) (tVar 0) (tC (.int 1))) hr (by rfl) mt (by decide +kernel) TB rfl (gsc_by (N := ["house"]) (sc := defScope sCallNames) (by decide +kernel)) (pi_tup (pe_ix ix_tup (pv 0) pe_int (fun _ _ => rfl))) (fun _ _ _ _ _ _ _ => pg_name (i := 0) (show (["call"] : List Str).Nodup by decide) rfl (Or.inl rfl)) (fun _ _ _ _ _ _ _ _ => pe_ix ix_tup (pv 0) pe_int (fun _ _ => rfl)) (fun _ => rfl))), ?_⟩
    have g0 := Go.refl tb
    obtain ⟨a, xs, x, rfl, ha, hx, h1⟩ := part1 (n := 2) h e (by decide)
    cases et : nth 1 t with
    | tup cs =>
      rw [et] at h1 e1 e2 e3 q
      cases h1 with
      | tup b ys _ hb l _ ey =>
        refine ⟨_, rfl, a, xs, _, _, rfl, rfl, SqT.of ha, hx, b, rfl, ⟨ys, SqT.of hb⟩, tb _ hT, fun H2 h2 => ?_⟩
        have g2 := g0.tab hT h2
        refine tup_tup (xs := ys) (fun σ => ∃ o, σ = [o]) (fun i zs G' => Go T H G' ∧ zs.length = i ∧ ∀ (j : Nat) (v : V) (t : Th), zs[j]? = some v → (cs.map (nth 1))[j]? = some t → IsTh G' v t) ⟨none, rfl⟩ ⟨g2, rfl, fun j v t h1 => by simp at h1⟩ (fun i zs G' h => SqT.of (tb.at h.1.fr hb fun ps y => by cases y)) (fun i x zs σ G' hx hσ h => ?_) (fun zs G' h => ?_)
        · obtain ⟨o, rfl⟩ := hσ
          obtain ⟨g3, lz, ez⟩ := h
          have hi : i < cs.length := by rw [← l]; exact (List.getElem?_eq_some_iff.mp hx).1
          obtain ⟨c', hc⟩ : ∃ c', cs[i]? = some c' := ⟨cs[i], List.getElem?_eq_getElem hi⟩
          have hth := Go.th tb g3 (ey i x c' hx hc)
          have hcall : toldT c' "call" 3 = true := by
            have q1 := List.all_eq_true.mp e2 c' (List.mem_of_getElem? hc)
            unfold callT at q1
            simp only [Bool.and_eq_true] at q1
            exact q1.1
          obtain ⟨a2, xs2, x2, rfl, ha2, hx2, h2'⟩ := part1 (n := 3) hth hcall (by decide)
          refine ⟨_, rfl, a2, xs2, _, x2, rfl, rfl, SqT.of ha2, hx2, ?_, ⟨_, rfl⟩, g3, by simp [lz], fun j v t h3 h4 => ?_⟩
          · rw [lz, sizeLine_eq]
            have : cs.length ≤ 100000 := e3
            omega
          · by_cases hj : j < zs.length
            · rw [List.getElem?_append_left hj] at h3
              exact ez j v t h3 h4
            · have hj2 : j = i := by
                have := (List.getElem?_eq_some_iff.mp h3).1
                simp at this
                omega
              subst hj2
              rw [List.getElem?_append_right (by omega), lz, Nat.sub_self] at h3
              cases h3
              rw [List.getElem?_map, hc] at h4
              cases h4
              exact h2'
        · obtain ⟨g3, lz, ez⟩ := h
          have l3 : zs.length ≤ 100000 := by rw [lz, l]; exact e3
          refine ⟨by rw [sizeLine_eq]; omega, fun p np => q p _ (g3.new np) ?_⟩
          refine .tup p zs _ upd_same (by rw [lz, l, List.length_map]; rfl) l3 fun j v t h3 h4 => isTh_keep (fun b o e _ => ?_) (ez j v t h3 h4)
          rw [upd_ne (fun y => by rw [y, np] at e; cases e)]; exact e
    | _ => rw [et] at e1; cases e1
theorem ok_answerNames {f c Tn : Addr} {fd : FuncData} (F : FunT K "answer_names" "answer_names" sAnswerNames f c fd) (mt : mg "tuple" = none) (TB : TabB base mg c Tn) (hT : Tn ∈ T) : FnOk P w K mg base CX0 2 f fd ["house"] (spParts T 2) := by
  refine F.ok scAn (fun vs H Q E h => ?_) (fun A outer s H vs Q E hr h => ?_)
  · obtain ⟨v, t, rfl, _⟩ := h
    rfl
  · obtain ⟨v, t, rfl, h, tb, e, e1, e2, e3, q⟩ := h
    refine ⟨_, pss_one (ps_ret (pe_tupG (N' := ["call"]) (cap := [none]) (k := 0) (te := tOp (rIxT K) (tVar 0) (tC (.int 2))) hr (by rfl) mt (by decide +kernel) TB rfl (gsc_by (N := ["house"]) (sc := defScope sAnswerNames) (by decide +kernel)) (pi_tup (pe_ix ix_tup (pv 0) pe_int (fun _ _ => rfl))) (fun _ _ _ _ _ _ _ => pg_name (i := 0) (show (["call"] : List Str).Nodup by decide) rfl (Or.inl rfl)) (fun _ _ _ _ _ _ _ _ => pe_ix ix_tup (pv 0) pe_int (fun _ _ => rfl)) (fun _ => rfl))), ?_⟩
    have g0 := Go.refl tb
    obtain ⟨a, xs, x, rfl, ha, hx, h1⟩ := part1 (n := 2) h e (by decide)
    cases et : nth 1 t with
    | tup cs =>
      rw [et] at h1 e1 e2 e3 q
      cases h1 with
      | tup b ys _ hb l _ ey =>
        refine ⟨_, rfl, a, xs, _, _, rfl, rfl, SqT.of ha, hx, b, rfl, ⟨ys, SqT.of hb⟩, tb _ hT, fun H2 h2 => ?_⟩
        have g2 := g0.tab hT h2
        refine tup_tup (xs := ys) (fun σ => ∃ o, σ = [o]) (fun i zs G' => Go T H G' ∧ zs.length = i ∧ ∀ (j : Nat) (v : V) (t : Th), zs[j]? = some v → (cs.map (nth 2))[j]? = some t → IsTh G' v t) ⟨none, rfl⟩ ⟨g2, rfl, fun j v t h1 => by simp at h1⟩ (fun i zs G' h => SqT.of (tb.at h.1.fr hb fun ps y => by cases y)) (fun i x zs σ G' hx hσ h => ?_) (fun zs G' h => ?_)
        · obtain ⟨o, rfl⟩ := hσ
          obtain ⟨g3, lz, ez⟩ := h
          have hi : i < cs.length := by rw [← l]; exact (List.getElem?_eq_some_iff.mp hx).1
          obtain ⟨c', hc⟩ : ∃ c', cs[i]? = some c' := ⟨cs[i], List.getElem?_eq_getElem hi⟩
          have hth := Go.th tb g3 (ey i x c' hx hc)
          have hcall : toldT c' "call" 3 = true := by
            have q1 := List.all_eq_true.mp e2 c' (List.mem_of_getElem? hc)
            unfold callT at q1
            simp only [Bool.and_eq_true] at q1
            exact q1.1
          obtain ⟨a2, xs2, x2, rfl, ha2, hx2, h2'⟩ := part2 (n := 3) hth hcall (by decide)
          refine ⟨_, rfl, a2, xs2, _, x2, rfl, rfl, SqT.of ha2, hx2, ?_, ⟨_, rfl⟩, g3, by simp [lz], fun j v t h3 h4 => ?_⟩
          · rw [lz, sizeLine_eq]
            have : cs.length ≤ 100000 := e3
            omega
          · by_cases hj : j < zs.length
            · rw [List.getElem?_append_left hj] at h3
              exact ez j v t h3 h4
            · have hj2 : j = i := by
                have := (List.getElem?_eq_some_iff.mp h3).1
                simp at this
                omega
              subst hj2
              rw [List.getElem?_append_right (by omega), lz, Nat.sub_self] at h3
              cases h3
              rw [List.getElem?_map, hc] at h4
              cases h4
              exact h2'
        · obtain ⟨g3, lz, ez⟩ := h
          have l3 : zs.length ≤ 100000 := by rw [lz, l]; exact e3
          refine ⟨by rw [sizeLine_eq]; omega, fun p np => q p _ (g3.new np) ?_⟩
          refine .tup p zs _ upd_same (by rw [lz, l, List.length_map]; rfl) l3 fun j v t h3 h4 => isTh_keep (fun b o e _ => ?_) (ez j v t h3 h4)
          rw [upd_ne (fun y => by rw [y, np] at e; cases e)]; exact e
    | _ => rw [et] at e1; cases e1
def spHouse (T : List Addr) : Sp := spB T houseT
theorem ok_house {f c Tn g g2 g3 g4 : Addr} {fd gd gd2 gd3 gd4 : FuncData} (F : FunT K "is_house" "is_house" sIsHouse f c fd) (mi : mg "isinstance" = none) (mt : mg "tuple" = none) (mal : mg "all" = none) (TB : TabB base mg c Tn) (hT : Tn ∈ T)
    (G : FnOk P w K mg base CX0 2 g gd ["thing", "word", "many"] spTold) (mG : mg "is_told" = some (.ref g)) (kG : PySem.W.keepIn K (.ref g) = true) (bG : Binds K gd ["thing", "word", "many"] [])
    (G2 : FnOk P w K mg base CX0 5 g2 gd2 ["thing"] (spB T callT)) (mG2 : mg "is_call" = some (.ref g2)) (kG2 : PySem.W.keepIn K (.ref g2) = true) (bG2 : Binds K gd2 ["thing"] [])
    (G3 : FnOk P w K mg base CX0 4 g3 gd3 ["thing", "most"] (spBn T namesT)) (mG3 : mg "are_names" = some (.ref g3)) (kG3 : PySem.W.keepIn K (.ref g3) = true) (bG3 : Binds K gd3 ["thing", "most"] [])
    (G4 : FnOk P w K mg base CX0 2 g4 gd4 ["house"] (spParts T 1)) (mG4 : mg "call_names" = some (.ref g4)) (kG4 : PySem.W.keepIn K (.ref g4) = true) (bG4 : Binds K gd4 ["house"] []) : FnOk P w K mg base CX0 7 f fd ["thing"] (spB T houseT) := by
  refine F.ok scHo (fun vs H Q E h => ?_) (fun A outer s H vs Q E hr h => ?_)
  · obtain ⟨v, t, rfl, _⟩ := h
    rfl
  · obtain ⟨v, t, rfl, h, tb, q⟩ := h
    refine ⟨_, pss_cons (ps_if (pt_not (pt_val (pe_call G (hr.mono (by decide)) (by rfl) mG kG bG .nil pass0 (pa_cons (pv 0) (pa_cons pe_str (pa_cons pe_int pa_nil)))))) (pss_one (ps_ret pe_bl)) pss_nil)
      (pss_cons (ps_if (PW.pt (pw_or (pt_not (pt_val (pe_callB call_isi (by rfl) mi (by decide +kernel) (pa_cons (pe_ix ix_tup (pv 0) pe_int (fun _ _ => rfl)) (pa_cons (pe_bltn (v := .ty "tuple") (by rfl) mt (by decide +kernel) rfl) pa_nil)))))
        (pw_or1 (pt_not (pt_val (pe_allG (N' := ["call"]) (cap := [none]) hr (by rfl) mal (by decide +kernel) TB rfl (gsc_by (N := ["thing"]) (sc := defScope sIsHouse) (by decide +kernel)) (pi_tup (pe_ix ix_tup (pv 0) pe_int (fun _ _ => rfl))) (fun _ _ _ _ _ _ _ => pg_name (i := 0) (show (["call"] : List Str).Nodup by decide) rfl (Or.inl rfl)) (fun _ _ _ _ _ _ _ hr' => pe_call G2 hr' (by rfl) mG2 kG2 bG2 .nil pass0 (pa_cons (pv 0) pa_nil)) (fun _ => rfl))))))) (pss_one (ps_ret pe_bl)) pss_nil)
      (pss_one (ps_ret (pe_call G3 (hr.mono (by decide)) (by rfl) mG3 kG3 bG3 .nil pass0 (pa_cons (pe_call G4 (hr.mono (by decide)) (by rfl) mG4 kG4 bG4 .nil pass0 (pa_cons (pv 0) pa_nil)) (pa_cons pe_int pa_nil)))))), ?_⟩
    have g0 := Go.refl tb
    refine ⟨_, rfl, v, t, "house", 2, rfl, h, by decide, _, rfl, ?_⟩
    cases e : toldT t "house" 2 with
    | false =>
      have q1 := q H g0
      unfold houseT at q1
      rw [e, Bool.false_and] at q1
      exact iteT' rfl q1
    | true =>
      refine iteF' rfl ?_
      obtain ⟨a, xs, x, rfl, ha, hx, h1⟩ := part1 (n := 2) h e (by decide)
      obtain ⟨ty, y, e1, e2, _⟩ := ty_of (K := K) h1
      refine ⟨_, rfl, a, xs, _, x, rfl, rfl, SqT.of ha, hx, x, .ty "tuple", ty, .type "tuple", _, rfl, .ty "tuple", y, e2, _, rfl, ?_⟩
      have q0 : ∀ H', Go T H H' → Q (.bl (((nth 1 t).isTup && (items (nth 1 t)).all callT) && namesT 5 (.tup ((items (nth 1 t)).map (nth 1))))) H' := fun H' g' => by
        have q1 := q H' g'
        unfold houseT at q1
        rw [e, Bool.true_and] at q1
        exact q1
      cases et : nth 1 t with
      | tup cs =>
        rw [et] at h1 q0
        cases h1 with
        | tup b ys _ hb l _ ey =>
          refine iteF' rfl ?_
          refine ⟨_, rfl, a, xs, _, _, rfl, rfl, SqT.of ha, hx, b, rfl, ⟨ys, SqT.of hb⟩, tb _ hT, fun H2 h2 => ?_⟩
          have g2 := g0.tab hT h2
          refine all_tup (xs := ys) (fun σ => ∃ o, σ = [o]) (fun i G' => Go T H G' ∧ ∀ t ∈ cs.take i, callT t = true) ⟨none, rfl⟩ ⟨g2, fun t ht => by simp at ht⟩ (fun i G' h => SqT.of (tb.at h.1.fr hb fun ps y => by cases y)) (fun i x σ G' hx hσ h => ?_) (fun G' h => ?_)
          · obtain ⟨o, rfl⟩ := hσ
            obtain ⟨g3, al⟩ := h
            have hi : i < cs.length := by rw [← l]; exact (List.getElem?_eq_some_iff.mp hx).1
            obtain ⟨c', hc⟩ : ∃ c', cs[i]? = some c' := ⟨cs[i], List.getElem?_eq_getElem hi⟩
            have hth := Go.th tb g3 (ey i x c' hx hc)
            refine ⟨_, rfl, x, c', rfl, hth, g3.tb, fun H5 g5 => ?_⟩
            cases hb : callT c' with
            | true =>
              refine .inl ⟨rfl, ⟨_, rfl⟩, g3.trans g5, fun t' ht' => ?_⟩
              rw [List.take_add_one, hc] at ht'
              rcases List.mem_append.mp ht' with h' | h'
              · exact al t' h'
              · have e' : t' = c' := by simpa using h'
                rw [e']; exact hb
            | false =>
              refine .inr ⟨rfl, ?_⟩
              have q1 := q0 H5 (g3.trans g5)
              have ea : cs.all callT = false := by
                cases ha' : cs.all callT with
                | false => rfl
                | true => rw [List.all_eq_true.mp ha' c' (List.mem_of_getElem? hc)] at hb; cases hb
              simp only [items, ea, Bool.and_false, Bool.false_and] at q1
              exact ⟨_, rfl, iteT' rfl q1⟩
          · obtain ⟨g3, al⟩ := h
            rw [l, List.take_length] at al
            have ea : cs.all callT = true := List.all_eq_true.mpr al
            refine ⟨_, rfl, iteF' rfl ?_⟩
            have h3 := Go.th tb g3 h
            refine ⟨_, rfl, _, t, rfl, h3, g3.tb, e, by rw [et]; rfl, by rw [et]; exact ea, by rw [et]; show cs.length ≤ _; rw [← l]; assumption, fun p H5 g5 hp => ?_⟩
            rw [et] at hp
            refine ⟨_, _, 5, rfl, by decide, hp, g5.tb, fun H6 g6 => ?_⟩
            have q1 := q0 H6 ((g3.trans g5).trans g6)
            simp only [items, ea, Bool.and_true, Th.isTup, Bool.true_and] at q1
            exact q1
      | _ =>
        rw [et] at q0
        exact iteT' rfl (q0 H g0)
end
end Hs

set_option Elab.async false
set_option linter.all false
set_option maxRecDepth 100000
set_option maxHeartbeats 2000000
/-! programs: is_word (of a house), is_entry, is_state_row, is_program. -/
namespace Pr
open PySem PySem.Spec PyProof.Rows L2 Sx Rp Dw NdefX GxR Rw Th Kd Gx Nm Hs
def namesOf (h : Th) : List Str := strsOf ((items (nth 1 h)).map (nth 1))
def ansOf (h : Th) : List (List Str) := (items (nth 1 h)).map fun c => strsOf (items (nth 2 c))
def wordT (ns : List Str) (t : Th) : Bool := t.isTup && (items t).all fun u => amongT u (ns.map V.str)
def entryT (ns : List Str) (m : Int) (t : Th) : Bool := tupOf t 2 && (amongT (nth 0 t) (ns.map V.str) && idxT (nth 1 t) m)
def rowT (nss : List (List Str)) (m : Int) (t : Th) : Bool := tupOf t (nss.length : Int) && ((nss.zip (items t)).all fun p => entryT p.1 m p.2)
def progT (t : Th) : Bool := toldT t "program" 3 && (houseT (nth 1 t) && (((nth 2 t).isTup && !(items (nth 2 t)).isEmpty) && (items (nth 2 t)).all (rowT (ansOf (nth 1 t)) ((items (nth 2 t)).length : Int))))
structure HouseP (t : Th) : Prop where
  told : toldT t "house" 2 = true
  tup : (nth 1 t).isTup = true
  calls : (items (nth 1 t)).all callT = true
  names : namesT 5 (.tup ((items (nth 1 t)).map (nth 1))) = true
  len : (items (nth 1 t)).length ≤ 5
theorem house_p {t : Th} (h : houseT t = true) : HouseP t := by
  unfold houseT at h
  simp only [Bool.and_eq_true] at h
  refine ⟨h.1, h.2.1.1, h.2.1.2, h.2.2, ?_⟩
  have q := h.2.2
  unfold namesT at q
  simp only [Bool.and_eq_true, decide_eq_true_eq, List.length_map] at q
  exact q.1.2
theorem names_all {n : Nat} {ts : List Th} (h : namesT n (.tup ts) = true) : ∀ t ∈ ts, ∃ z, t = Th.str z := by
  unfold namesT at h
  simp only [Bool.and_eq_true] at h
  exact fun t ht => name_str (List.all_eq_true.mp h.2.1 t ht)
/-- a tuple of names as it stands -/
theorem names_at {H : Hp} {p : Addr} {ts : List Th} (h : IsTh H (.ref p) (.tup ts)) (e : ∀ t ∈ ts, ∃ z, t = Th.str z) : H p = some (.tup ((strsOf ts).map V.str)) := by
  cases h with
  | tup a xs ts' ha l _ ex =>
    rw [← strs_of l ex e]
    exact ha
theorem all_str (ns : List Str) : AllStr (ns.map V.str) := fun x hx => by
  obtain ⟨s, _, rfl⟩ := List.mem_map.mp hx
  exact ⟨s, rfl⟩
theorem scWo : FnScope ["house", "thing", "names"] ["house", "thing"] (defScope sIsWord) := ⟨rfl, rfl, rfl, by decide +kernel, rfl, by decide +kernel, by decide +kernel⟩
theorem scEn : FnScope ["names", "many", "pair"] ["names", "many", "pair"] (defScope sIsEntry) := ⟨rfl, rfl, rfl, by decide +kernel, rfl, by decide +kernel, by decide +kernel⟩
theorem scRo : FnScope ["by_call", "many", "row"] ["by_call", "many", "row"] (defScope sIsRow) := ⟨rfl, rfl, rfl, by decide +kernel, rfl, by decide +kernel, by decide +kernel⟩
theorem scPr : FnScope ["thing", "rows", "by_call"] ["thing"] (defScope sIsProgram) := ⟨rfl, rfl, rfl, by decide +kernel, rfl, by decide +kernel, by decide +kernel⟩
section
variable {P : Program} {w : World} {K : PySem.W.Frag} {mg : Str → Option Value} {base : Heap} {T : List Addr}
def spWord (T : List Addr) : Sp := fun vs H Q _ => ∃ hv v h t, vs = [hv, v] ∧ IsTh H hv h ∧ houseT h = true ∧ IsTh H v t ∧ Tabs T H ∧ ∀ H', Go T H H' → Q (.bl (wordT (namesOf h) t)) H'
theorem ok_word {f c Tn g g2 g3 : Addr} {fd gd gd2 gd3 : FuncData} (F : FunT K "is_word" "is_word" sIsWord f c fd) (mi : mg "isinstance" = none) (mt : mg "tuple" = none) (mal : mg "all" = none) (TB : TabB base mg c Tn) (hT : Tn ∈ T)
    (G : FnOk P w K mg base CX0 7 g gd ["thing"] (spB T houseT)) (mG : mg "is_house" = some (.ref g)) (kG : PySem.W.keepIn K (.ref g) = true) (bG : Binds K gd ["thing"] [])
    (G2 : FnOk P w K mg base CX0 2 g2 gd2 ["house"] (spParts T 1)) (mG2 : mg "call_names" = some (.ref g2)) (kG2 : PySem.W.keepIn K (.ref g2) = true) (bG2 : Binds K gd2 ["house"] [])
    (G3 : FnOk P w K mg base CX0 1 g3 gd3 ["thing", "names"] spAmong) (mG3 : mg "is_string_among" = some (.ref g3)) (kG3 : PySem.W.keepIn K (.ref g3) = true) (bG3 : Binds K gd3 ["thing", "names"] []) : FnOk P w K mg base CX0 8 f fd ["house", "thing"] (spWord T) := by
  refine F.ok scWo (fun vs H Q E h => ?_) (fun A outer s H vs Q E hr h => ?_)
  · obtain ⟨hv, v, h, t, rfl, _⟩ := h
    rfl
  · obtain ⟨hv, v, h, t, rfl, hh, hho, hv', tb, q⟩ := h
    refine ⟨_, pss_cons (ps_if (pt_not (pt_val (pe_call G (hr.mono (by decide)) (by rfl) mG kG bG .nil pass0 (pa_cons (pv 0) pa_nil)))) pss_never pss_nil)
      (pss_cons (ps_set (i := 2) scWo.nd rfl (Or.inr rfl) (pe_call G2 (hr.mono (by decide)) (by rfl) mG2 kG2 bG2 .nil pass0 (pa_cons (pv 0) pa_nil)))
      (pss_one (ps_ret (pe_and (pe_callB call_isi (by rfl) mi (by decide +kernel) (pa_cons (pv 1) (pa_cons (pe_bltn (v := .ty "tuple") (by rfl) mt (by decide +kernel) rfl) pa_nil)))
        (pe_one (pe_allG (N' := ["name", "names"]) (cap := [none, some 2]) (k := 6) hr (by rfl) mal (by decide +kernel) TB rfl (gsc_by (N := ["house", "thing", "names"]) (sc := defScope sIsWord) (by decide +kernel)) (pi_tup (pv 1)) (fun _ _ _ _ _ _ _ => pg_name (i := 0) (show (["name", "names"] : List Str).Nodup by decide) rfl (Or.inl rfl)) (fun _ _ _ _ _ _ _ hr' => pe_call G3 (hr'.mono (by decide)) (by rfl) mG3 kG3 bG3 .nil pass0 (pa_cons (pv 0) (pa_cons (pv 1) pa_nil))) (fun _ => rfl))))))), ?_⟩
    have g0 := Go.refl tb
    have hp := house_p hho
    refine ⟨_, rfl, hv, h, rfl, hh, tb, fun H1 g1 => ⟨_, rfl, ?_⟩⟩
    rw [hho]
    refine iteF' rfl ?_
    have h1 := Go.th tb g1 hh
    refine ⟨_, rfl, hv, h, rfl, h1, g1.tb, hp.told, hp.tup, hp.calls, by have := hp.len; omega, fun p H2 g2 hnm => ?_⟩
    have g12 := g1.trans g2
    have hv2 := Go.th tb g12 hv'
    have ep := names_at hnm (names_all hp.names)
    obtain ⟨ty, y, e1, e2, _⟩ := ty_of (K := K) hv2
    refine ⟨_, rfl, v, .ty "tuple", ty, .type "tuple", _, rfl, .ty "tuple", y, e2, _, rfl, ?_⟩
    cases hv2 with
    | tup a xs ts ha l z ex =>
      refine iteT' rfl ⟨_, rfl, a, rfl, ⟨xs, SqT.of ha⟩, g2.tb _ hT, fun H3 h3 => ?_⟩
      have g3 := (Go.refl g2.tb).tab hT h3
      refine all_tup (xs := xs) (fun σ => ∃ o, σ = [o, some (.ref p)]) (fun i G' => Go T H2 G' ∧ ∀ t ∈ ts.take i, amongT t ((namesOf h).map V.str) = true) ⟨none, rfl⟩ ⟨g3, fun t ht => by simp at ht⟩ (fun i G' h => SqT.of (g2.tb.at h.1.fr ha fun ps y => by cases y)) (fun i x σ G' hx hσ h' => ?_) (fun G' h' => ?_)
      · obtain ⟨o, rfl⟩ := hσ
        obtain ⟨g4, al⟩ := h'
        have hi : i < ts.length := by rw [← l]; exact (List.getElem?_eq_some_iff.mp hx).1
        obtain ⟨u, hu⟩ : ∃ u, ts[i]? = some u := ⟨ts[i], List.getElem?_eq_getElem hi⟩
        have hth := Go.th g2.tb g4 (ex i x u hx hu)
        have ep4 := g2.tb.at g4.fr ep (fun ps y => by cases y)
        refine ⟨_, rfl, _, rfl, x, u, p, _, rfl, hth, ep4, all_str _, ?_⟩
        cases hb : amongT u ((namesOf h).map V.str) with
        | true =>
          refine .inl ⟨by rw [show strsOf ((items (nth 1 h)).map (nth 1)) = namesOf h from rfl, hb], ⟨_, rfl⟩, g4, fun t' ht' => ?_⟩
          rw [List.take_add_one, hu] at ht'
          rcases List.mem_append.mp ht' with h' | h'
          · exact al t' h'
          · have e' : t' = u := by simpa using h'
            rw [e']; exact hb
        | false =>
          refine .inr ⟨by rw [show strsOf ((items (nth 1 h)).map (nth 1)) = namesOf h from rfl, hb], ?_⟩
          have q1 := q G' (g12.trans g4)
          have ea : (ts.all fun u => amongT u ((namesOf h).map V.str)) = false := by
            cases ha' : ts.all fun u => amongT u ((namesOf h).map V.str) with
            | false => rfl
            | true => rw [List.all_eq_true.mp ha' u (List.mem_of_getElem? hu)] at hb; cases hb
          unfold wordT at q1
          simp only [items, Th.isTup, ea, Bool.and_false] at q1
          exact q1
      · obtain ⟨g4, al⟩ := h'
        rw [l, List.take_length] at al
        have ea : (ts.all fun u => amongT u ((namesOf h).map V.str)) = true := List.all_eq_true.mpr al
        have q1 := q G' (g12.trans g4)
        unfold wordT at q1
        simp only [items, Th.isTup, ea, Bool.and_true] at q1
        exact q1
    | _ => exact iteF' rfl (q H2 g12)
def spEntry : Sp := fun vs H Q _ => ∃ a ns m v t, vs = [.ref a, .int m, v] ∧ H a = some (.tup ((ns : List Str).map V.str)) ∧ IsTh H v t ∧ Q (.bl (entryT ns m t)) H
theorem ok_entry {f g g2 g3 : Addr} {fd gd gd2 gd3 : FuncData} (F : Fun K "is_entry" "is_entry" sIsEntry f fd)
    (G : FnOk P w K mg base CX0 1 g gd ["thing", "many"] spTupleOf) (mG : mg "is_tuple_of" = some (.ref g)) (kG : PySem.W.keepIn K (.ref g) = true) (bG : Binds K gd ["thing", "many"] [])
    (G2 : FnOk P w K mg base CX0 1 g2 gd2 ["thing", "names"] spAmong) (mG2 : mg "is_string_among" = some (.ref g2)) (kG2 : PySem.W.keepIn K (.ref g2) = true) (bG2 : Binds K gd2 ["thing", "names"] [])
    (G3 : FnOk P w K mg base CX0 2 g3 gd3 ["thing", "many"] spIndex) (mG3 : mg "is_index" = some (.ref g3)) (kG3 : PySem.W.keepIn K (.ref g3) = true) (bG3 : Binds K gd3 ["thing", "many"] []) : FnOk P w K mg base CX0 3 f fd ["names", "many", "pair"] spEntry := by
  refine F.ok scEn (fun vs H Q E h => ?_) (fun cdv A outer s H vs Q E hr h => ?_)
  · obtain ⟨a, ns, m, v, t, rfl, _⟩ := h
    rfl
  · obtain ⟨a, ns, m, v, t, rfl, ha, h, q⟩ := h
    refine ⟨_, pss_one (ps_ret (pe_and (pe_call G (hr.mono (by decide)) (by rfl) mG kG bG .nil pass0 (pa_cons (pv 2) (pa_cons pe_int pa_nil)))
      (pe_and (pe_call G2 (hr.mono (by decide)) (by rfl) mG2 kG2 bG2 .nil pass0 (pa_cons (pe_ix ix_tup (pv 2) pe_int (fun _ _ => rfl)) (pa_cons (pv 0) pa_nil)))
      (pe_one (pe_call G3 hr (by rfl) mG3 kG3 bG3 .nil pass0 (pa_cons (pe_ix ix_tup (pv 2) pe_int (fun _ _ => rfl)) (pa_cons (pv 1) pa_nil))))))), ?_⟩
    refine ⟨_, rfl, v, t, 2, rfl, h, _, rfl, ?_⟩
    unfold entryT at q
    cases e : tupOf t 2 with
    | false =>
      rw [e, Bool.false_and] at q
      exact iteF' rfl q
    | true =>
      rw [e, Bool.true_and] at q
      cases h with
      | tup b xs ts hb l z ex =>
        unfold tupOf at e
        have e2 : ts.length = 2 := by have := of_decide_eq_true e; omega
        obtain ⟨t0, t1, rfl⟩ : ∃ t0 t1, ts = [t0, t1] := by
          match ts, e2 with
          | [t0, t1], _ => exact ⟨t0, t1, rfl⟩
        obtain ⟨x0, x1, rfl⟩ : ∃ x0 x1, xs = [x0, x1] := by
          match xs, l with
          | [x0, x1], _ => exact ⟨x0, x1, rfl⟩
        refine iteT' rfl ⟨_, rfl, b, _, _, x0, rfl, rfl, SqT.of hb, at0, _, rfl, x0, t0, a, _, rfl, ex 0 x0 t0 rfl rfl, ha, all_str _, _, rfl, ?_⟩
        have q : Q (.bl (amongT t0 (ns.map V.str) && idxT t1 m)) H := q
        cases e1 : amongT t0 (ns.map V.str) with
        | false =>
          rw [e1, Bool.false_and] at q
          exact iteF' rfl q
        | true =>
          rw [e1, Bool.true_and] at q
          exact iteT' rfl ⟨_, rfl, b, _, _, x1, rfl, rfl, SqT.of hb, at1, _, rfl, x1, t1, m, rfl, ex 1 x1 t1 rfl rfl, q⟩
      | _ => cases e
end
end Pr

set_option Elab.async false
set_option linter.all false
set_option maxRecDepth 100000
set_option maxHeartbeats 2000000
/-! programs: is_state_row, is_program. -/
namespace Ps
open PySem PySem.Spec PyProof.Rows L2 Sx Rp Dw NdefX GxR Rw Th Kd Gx Nm Hs Pr RZ
/-- all(..) over zip of two tuples of one length -/
theorem all_zip {K : PySem.W.Frag} {a b : Addr} {xs ys : List V} {g : TG} {te : TE} {Qt Qf : Hp → Prop} {σ0 : L2.St} {H2 : Hp} (hl : xs.length = ys.length) (Sv : L2.St → Prop) (Iv : Nat → Hp → Prop) (s0 : Sv σ0) (h0 : Iv 0 H2) (ha : ∀ i H, Iv i H → SqT K H a xs ∧ SqT K H b ys)
    (hs : ∀ i x y T σ H, xs[i]? = some x → ys[i]? = some y → Sv σ → Iv i H → H T = none → g (.ref T) σ (upd H T (.tup [x, y])) fun σ2 H3 => te σ2 H3 fun v H4 => (v = .bl true ∧ (Sv σ2 ∧ Iv (i + 1) H4)) ∨ (v = .bl false ∧ Qf H4)) (he : ∀ H, Iv xs.length H → Qt H) :
    ∃ (n0 : Nat) (Wk : Nat → L2.St → Hp → Prop), Wk 0 σ0 H2 ∧ ∀ i σ' H', i ≤ n0 → Wk i σ' H' → ((ItzT K a b).stop i H' ∧ Qt H') ∨
      ((ItzT K a b).go i H' ∧ i < n0 ∧ ∀ x H3, (ItzT K a b).yld i H' x H3 → g x σ' H3 fun σ2 H4 => te σ2 H4 fun v H5 => (v = .bl true ∧ Wk (i + 1) σ2 H5) ∨ (v = .bl false ∧ Qf H5)) := by
  refine ⟨xs.length, fun i σ H => Sv σ ∧ Iv i H, ⟨s0, h0⟩, ?_⟩
  rintro i σ H hi ⟨sv, iv⟩
  obtain ⟨hq, hq2⟩ := ha i H iv
  by_cases hlt : i < xs.length
  · have hlt2 : i < ys.length := by omega
    refine .inr ⟨⟨xs, ys, xs[i], ys[i], hq, hq2, by simp [hlt], by simp [hlt2]⟩, hlt, fun x H3 y => ?_⟩
    obtain ⟨T, x', y', rfl, hT, rfl, f1, f2⟩ := y
    exact hs i x' y' T σ H (f1 xs hq) (f2 ys hq2) sv iv hT
  · have e : i = xs.length := by omega
    subst e
    exact .inl ⟨⟨xs, ys, hq, hq2, .inl (Nat.le_refl _)⟩, he H iv⟩
/-- for each call its answers -/
structure ByCall (H : Hp) (bc : Addr) (nss : List (List Str)) : Prop where
  ex : ∃ bs : List V, H bc = some (.tup bs) ∧ bs.length = nss.length ∧ ∀ (i : Nat) (x : V) (ns : List Str), bs[i]? = some x → nss[i]? = some ns → ∃ a, x = .ref a ∧ H a = some (.tup (ns.map V.str))
theorem ByCall.go {T : List Addr} {H H' : Hp} {bc : Addr} {nss : List (List Str)} (h : ByCall H bc nss) (t : Tabs T H) (g : Go T H H') : ByCall H' bc nss := by
  obtain ⟨bs, e, l, q⟩ := h.ex
  refine ⟨bs, t.at g.fr e (fun ps y => by cases y), l, fun i x ns h1 h2 => ?_⟩
  obtain ⟨a, e1, e2⟩ := q i x ns h1 h2
  exact ⟨a, e1, t.at g.fr e2 (fun ps y => by cases y)⟩
theorem go_tmp {T : List Addr} {H H1 : Hp} {p : Addr} {o : HO} (g : Go T H H1) (n : H1 p = none) : Go T H (upd H1 p o) := g.new n
section
variable {P : Program} {w : World} {K : PySem.W.Frag} {mg : Str → Option Value} {base : Heap} {T : List Addr}
def spRow (T : List Addr) : Sp := fun vs H Q _ => ∃ bc nss m v t, vs = [.ref bc, .int m, v] ∧ ByCall H bc nss ∧ IsTh H v t ∧ Tabs T H ∧ ∀ H', Go T H H' → Q (.bl (rowT nss m t)) H'
theorem ok_row {f c Tn g g2 : Addr} {fd gd gd2 : FuncData} (F : FunT K "is_state_row" "is_state_row" sIsRow f c fd) (ml : mg "len" = none) (mz : mg "zip" = none) (mal : mg "all" = none) (TB : TabB base mg c Tn) (hT : Tn ∈ T)
    (G : FnOk P w K mg base CX0 1 g gd ["thing", "many"] spTupleOf) (mG : mg "is_tuple_of" = some (.ref g)) (kG : PySem.W.keepIn K (.ref g) = true) (bG : Binds K gd ["thing", "many"] [])
    (G2 : FnOk P w K mg base CX0 3 g2 gd2 ["names", "many", "pair"] spEntry) (mG2 : mg "is_entry" = some (.ref g2)) (kG2 : PySem.W.keepIn K (.ref g2) = true) (bG2 : Binds K gd2 ["names", "many", "pair"] []) : FnOk P w K mg base CX0 5 f fd ["by_call", "many", "row"] (spRow T) := by
  refine F.ok scRo (fun vs H Q E h => ?_) (fun A outer s H vs Q E hr h => ?_)
  · obtain ⟨bc, nss, m, v, t, rfl, _⟩ := h
    rfl
  · obtain ⟨bc, nss, m, v, t, rfl, hb, h, tb, q⟩ := h
    refine ⟨_, pss_cons (ps_if (pt_not (pt_val (pe_call G (hr.mono (by decide)) (by rfl) mG kG bG .nil pass0 (pa_cons (pv 2) (pa_cons (pe_callB call_len_seq (by rfl) ml PySem.boot_len (pa_cons (pv 0) pa_nil)) pa_nil))))) (pss_one (ps_ret pe_bl)) pss_nil)
      (pss_one (ps_ret (pe_allG (g := gTup K 2 (gCons (gName 0) (gCons (gName 1) gNil))) (N' := ["names", "pair", "many"]) (cap := [none, none, some 1]) (k := 3) hr (by rfl) mal (by decide +kernel) TB rfl (gsc_by (N := ["by_call", "many", "row"]) (sc := defScope sIsRow) (by decide +kernel)) (pi_zipA (by rfl) mz (pa_cons (pv 0) (pa_cons (pv 2) pa_nil)))
        (fun _ _ _ _ _ _ _ => pg_tup rfl (pgs_cons (pg_name (i := 0) (show (["names", "pair", "many"] : List Str).Nodup by decide) rfl (Or.inl rfl) (Or.inr rfl)) (pgs_cons (pg_name (i := 1) (show (["names", "pair", "many"] : List Str).Nodup by decide) rfl (Or.inl rfl) (Or.inr rfl)) pgs_nil)))
        (fun _ _ _ _ _ _ _ hr' => pe_call G2 hr' (by rfl) mG2 kG2 bG2 .nil pass0 (pa_cons (pv 0) (pa_cons (pv 2) (pa_cons (pv 1) pa_nil)))) (fun _ => rfl)))), ?_⟩
    have g0 := Go.refl tb
    obtain ⟨bs, hbs, lb, qb⟩ := hb.ex
    refine ⟨_, rfl, _, rfl, bc, bs, rfl, .inr (SqT.of hbs), v, t, (bs.length : Int), rfl, h, _, rfl, ?_⟩
    have q0 := q H g0
    cases e : tupOf t (bs.length : Int) with
    | false =>
      unfold rowT at q0
      rw [← lb, e, Bool.false_and] at q0
      exact iteT' rfl q0
    | true =>
      refine iteF' rfl ?_
      cases h with
      | tup b xs ts ha l z ex =>
        have e2 : ts.length = bs.length := by
          have := of_decide_eq_true (show decide ((ts.length : Int) = (bs.length : Int)) = true from e)
          omega
        refine ⟨_, rfl, _, rfl, bc, b, bs, xs, rfl, .inr ⟨SqT.of hbs, SqT.of ha, tb _ hT, fun H2 h2 => ?_⟩⟩
        have g2 := g0.tab hT h2
        have q1 : ∀ H', Go T H H' → Q (.bl ((nss.zip ts).all fun p => entryT p.1 m p.2)) H' := fun H' g' => by
          have q2 := q H' g'
          unfold rowT at q2
          rw [← lb, e, Bool.true_and] at q2
          exact q2
        refine all_zip (xs := bs) (ys := xs) (by omega) (fun σ => ∃ o1 o2, σ = [o1, o2, some (.int m)]) (fun i G' => Go T H G' ∧ ∀ p ∈ (nss.zip ts).take i, entryT p.1 m p.2 = true) ⟨none, none, rfl⟩ ⟨g2, fun t ht => by simp at ht⟩ (fun i G' h => ⟨SqT.of (tb.at h.1.fr hbs fun ps y => by cases y), SqT.of (tb.at h.1.fr ha fun ps y => by cases y)⟩) (fun i x y Tm σ G' hx hy hσ h' nT => ?_) (fun G' h' => ?_)
        · obtain ⟨o1, o2, rfl⟩ := hσ
          obtain ⟨g3, al⟩ := h'
          have hi : i < bs.length := (List.getElem?_eq_some_iff.mp hx).1
          obtain ⟨u, hu⟩ : ∃ u, ts[i]? = some u := ⟨ts[i]'(by omega), List.getElem?_eq_getElem (by omega)⟩
          obtain ⟨ns, hns⟩ : ∃ ns, nss[i]? = some ns := ⟨nss[i]'(by omega), List.getElem?_eq_getElem (by omega)⟩
          have g4 : Go T H (upd G' Tm (.tup [x, y])) := g3.new nT
          obtain ⟨an, rfl, han⟩ := qb i x ns hx hns
          refine ⟨Tm, _, rfl, SqT.of upd_same, rfl, _, _, rfl, _, _, rfl, rfl, ?_⟩
          have hzz : (nss.zip ts)[i]? = some (ns, u) := by
            rw [List.getElem?_zip_eq_some]
            exact ⟨hns, hu⟩
          refine ⟨_, rfl, _, rfl, _, rfl, an, ns, m, y, u, rfl, tb.at g4.fr han (fun ps y => by cases y), Go.th tb g4 (ex i y u hy hu), ?_⟩
          cases hb : entryT ns m u with
          | true =>
            refine .inl ⟨rfl, ⟨_, _, rfl⟩, g4, fun p hp => ?_⟩
            rw [List.take_add_one, hzz] at hp
            rcases List.mem_append.mp hp with h' | h'
            · exact al p h'
            · have e' : p = (ns, u) := by simpa using h'
              rw [e']; exact hb
          | false =>
            refine .inr ⟨rfl, ?_⟩
            have q2 := q1 _ g4
            have ea : ((nss.zip ts).all fun p => entryT p.1 m p.2) = false := by
              cases ha' : (nss.zip ts).all fun p => entryT p.1 m p.2 with
              | false => rfl
              | true => rw [List.all_eq_true.mp ha' (ns, u) (List.mem_of_getElem? hzz)] at hb; cases hb
            rw [ea] at q2
            exact q2
        · obtain ⟨g3, al⟩ := h'
          have lz : (nss.zip ts).length = bs.length := by rw [List.length_zip]; omega
          rw [← lz, List.take_length] at al
          have q2 := q1 _ g3
          rw [List.all_eq_true.mpr al] at q2
          exact q2
      | _ => cases e
def spProg (T : List Addr) : Sp := spB T progT
theorem ok_program {f c Tn g g2 g3 g4 : Addr} {fd gd gd2 gd3 gd4 : FuncData} (F : FunT K "is_program" "is_program" sIsProgram f c fd) (mi : mg "isinstance" = none) (mt : mg "tuple" = none) (ml : mg "len" = none) (mal : mg "all" = none) (TB : TabB base mg c Tn) (hT : Tn ∈ T)
    (G : FnOk P w K mg base CX0 2 g gd ["thing", "word", "many"] spTold) (mG : mg "is_told" = some (.ref g)) (kG : PySem.W.keepIn K (.ref g) = true) (bG : Binds K gd ["thing", "word", "many"] [])
    (G2 : FnOk P w K mg base CX0 7 g2 gd2 ["thing"] (spB T houseT)) (mG2 : mg "is_house" = some (.ref g2)) (kG2 : PySem.W.keepIn K (.ref g2) = true) (bG2 : Binds K gd2 ["thing"] [])
    (G3 : FnOk P w K mg base CX0 2 g3 gd3 ["house"] (spParts T 2)) (mG3 : mg "answer_names" = some (.ref g3)) (kG3 : PySem.W.keepIn K (.ref g3) = true) (bG3 : Binds K gd3 ["house"] [])
    (G4 : FnOk P w K mg base CX0 5 g4 gd4 ["by_call", "many", "row"] (spRow T)) (mG4 : mg "is_state_row" = some (.ref g4)) (kG4 : PySem.W.keepIn K (.ref g4) = true) (bG4 : Binds K gd4 ["by_call", "many", "row"] []) : FnOk P w K mg base CX0 8 f fd ["thing"] (spB T progT) := by
  refine F.ok scPr (fun vs H Q E h => ?_) (fun A outer s H vs Q E hr h => ?_)
  · obtain ⟨v, t, rfl, _⟩ := h
    rfl
  · obtain ⟨v, t, rfl, h, tb, q⟩ := h
    refine ⟨_, pss_cons (ps_if (PW.pt (pw_or (pt_not (pt_val (pe_call G (hr.mono (by decide)) (by rfl) mG kG bG .nil pass0 (pa_cons (pv 0) (pa_cons pe_str (pa_cons pe_int pa_nil)))))) (pw_or1 (pt_not (pt_val (pe_call G2 hr (by rfl) mG2 kG2 bG2 .nil pass0 (pa_cons (pe_ix ix_tup (pv 0) pe_int (fun _ _ => rfl)) pa_nil))))))) (pss_one (ps_ret pe_bl)) pss_nil)
      (pss_cons (ps_set (i := 1) scPr.nd rfl (Or.inr rfl) (pe_ix ix_tup (pv 0) pe_int (fun _ _ => rfl)))
      (pss_cons (ps_if (PW.pt (pw_or (pt_not (pt_val (pe_callB call_isi (by rfl) mi (by decide +kernel) (pa_cons (pv 1) (pa_cons (pe_bltn (v := .ty "tuple") (by rfl) mt (by decide +kernel) rfl) pa_nil))))) (pw_or1 (pt_not (pt_truth (pv 1) (by intro _; rfl)))))) (pss_one (ps_ret pe_bl)) pss_nil)
      (pss_cons (ps_set (i := 2) scPr.nd rfl (Or.inr rfl) (pe_call G3 (hr.mono (by decide)) (by rfl) mG3 kG3 bG3 .nil pass0 (pa_cons (pe_ix ix_tup (pv 0) pe_int (fun _ _ => rfl)) pa_nil)))
      (pss_one (ps_ret (pe_allG (te := tCall (spRow T) [] E0 (tCons (tVar 2) (tCons (tCB (fun xs H Q => ∃ p ys, xs = [V.ref p] ∧ (SqL K H p ys ∨ SqT K H p ys) ∧ Q (.int ys.length) H) (tCons (tVar 1) tNil)) (tCons (tVar 0) tNil)))) (N' := ["row", "rows", "by_call"]) (cap := [none, some 1, some 2]) (k := 6) hr (by rfl) mal (by decide +kernel) TB rfl (gsc_by (N := ["thing", "rows", "by_call"]) (sc := defScope sIsProgram) (by decide +kernel)) (pi_tup (pv 1)) (fun _ _ _ _ _ _ _ => pg_name (i := 0) (show (["row", "rows", "by_call"] : List Str).Nodup by decide) rfl (Or.inl rfl))
        (fun _ _ _ _ _ _ _ hr' => pe_call G4 (hr'.mono (by decide)) (by rfl) mG4 kG4 bG4 .nil pass0 (pa_cons (pv 2) (pa_cons (pe_callB call_len_seq (by rfl) ml PySem.boot_len (pa_cons (pv 1) pa_nil)) (pa_cons (pv 0) pa_nil)))) (fun _ => rfl))))))), ?_⟩
    have g0 := Go.refl tb
    refine ⟨_, rfl, v, t, "program", 3, rfl, h, by decide, _, rfl, ?_⟩
    cases e : toldT t "program" 3 with
    | false =>
      have q1 := q H g0
      unfold progT at q1
      rw [e, Bool.false_and] at q1
      exact iteT' rfl (iteT' rfl q1)
    | true =>
      obtain ⟨a, xs, x1, rfl, ha, hx1, h1⟩ := part1 (n := 3) h e (by decide)
      refine iteF' rfl ⟨_, rfl, a, xs, _, x1, rfl, rfl, SqT.of ha, hx1, x1, nth 1 t, rfl, h1, tb, fun H2 g2 => ⟨_, rfl, ?_⟩⟩
      have q0 : ∀ H', Go T H H' → Q (.bl (houseT (nth 1 t) && (((nth 2 t).isTup && !(items (nth 2 t)).isEmpty) && (items (nth 2 t)).all (rowT (ansOf (nth 1 t)) ((items (nth 2 t)).length : Int))))) H' := fun H' g' => by
        have q1 := q H' g'
        unfold progT at q1
        rw [e, Bool.true_and] at q1
        exact q1
      cases eh : houseT (nth 1 t) with
      | false =>
        have q1 := q0 H2 g2
        rw [eh, Bool.false_and] at q1
        exact iteT' rfl q1
      | true =>
        refine iteF' rfl ?_
        have h' := Go.th tb g2 h
        obtain ⟨a', xs', x2, e', ha', hx2, h2⟩ := part2 (n := 3) h' e (by decide)
        cases e'
        obtain ⟨a3, xs3, x1', e', ha3, hx1', h1'⟩ := part1 (n := 3) h' e (by decide)
        cases e'
        rw [ha'] at ha3
        cases ha3
        refine ⟨_, rfl, a, xs', _, x2, rfl, rfl, SqT.of ha', hx2, ?_⟩
        obtain ⟨ty, y, e1, e2, _⟩ := ty_of (K := K) h2
        refine ⟨_, rfl, x2, .ty "tuple", ty, .type "tuple", _, rfl, .ty "tuple", y, e2, _, rfl, ?_⟩
        have hp := house_p eh
        cases et : nth 2 t with
        | tup rs =>
          rw [et] at h2 q0
          cases h2 with
          | tup b ys _ hb l z ey =>
            refine iteF' rfl ⟨_, rfl, !ys.isEmpty, .inr (.inl ⟨ys, SqT.of hb, rfl⟩), ?_⟩
            by_cases hem : rs = []
            · subst hem
              have : ys = [] := List.length_eq_zero_iff.mp (by simpa using l)
              subst this
              refine iteT' rfl ?_
              have q1 := q0 H2 g2
              simp only [items, List.isEmpty_nil, Bool.not_true, Bool.and_false, Bool.false_and] at q1
              exact q1
            · have hem2 : ys ≠ [] := fun z => hem (List.length_eq_zero_iff.mp (by rw [← l, z]; rfl))
              have e5 : ys.isEmpty = false := by simpa using hem2
              have e6 : rs.isEmpty = false := by simpa using hem
              refine iteF' (by rw [e5]; rfl) ?_
              refine ⟨_, rfl, a, xs', _, x1', rfl, rfl, SqT.of ha', hx1', x1', nth 1 t, rfl, h1', g2.tb, hp.told, hp.tup, hp.calls, by have := hp.len; omega, fun p H3 g3 hnm => ?_⟩
              have g23 := g2.trans g3
              have hb3 := g2.tb.at g3.fr hb (fun ps y => by cases y)
              refine ⟨_, rfl, b, rfl, ⟨ys, SqT.of hb3⟩, g3.tb _ hT, fun H4 h4 => ?_⟩
              have g4 := (Go.refl g3.tb).tab hT h4
              have bc : ByCall H3 p (ansOf (nth 1 t)) := by
                cases hnm with
                | tup _ bs ts' hbs lbs _ ebs =>
                  refine ⟨bs, hbs, by rw [lbs]; unfold ansOf; rw [List.length_map, List.length_map], fun i x ns h5 h6 => ?_⟩
                  unfold ansOf at h6
                  rw [List.getElem?_map] at h6
                  obtain ⟨c', hc', rfl⟩ := Option.map_eq_some_iff.mp h6
                  have hcall := List.all_eq_true.mp hp.calls c' (List.mem_of_getElem? hc')
                  unfold callT at hcall
                  simp only [Bool.and_eq_true] at hcall
                  have ht := ebs i x (nth 2 c') h5 (by rw [List.getElem?_map, hc']; rfl)
                  cases e8 : nth 2 c' with
                  | tup us =>
                    rw [e8] at ht hcall
                    obtain ⟨an, rfl⟩ : ∃ an, x = V.ref an := by cases ht; exact ⟨_, rfl⟩
                    exact ⟨an, rfl, names_at ht (names_all hcall.2.2)⟩
                  | _ => rw [e8] at hcall; cases hcall.2.2
              have q1 : ∀ H', Go T H H' → Q (.bl (rs.all (rowT (ansOf (nth 1 t)) (rs.length : Int)))) H' := fun H' g' => by
                have q2 := q0 H' g'
                simp only [eh, items, Th.isTup, e6, Bool.not_false, Bool.true_and] at q2
                exact q2
              refine all_tup (xs := ys) (fun σ => ∃ o, σ = [o, some (.ref b), some (.ref p)]) (fun i G' => Go T H3 G' ∧ ∀ t' ∈ rs.take i, rowT (ansOf (nth 1 t)) (rs.length : Int) t' = true) ⟨none, rfl⟩ ⟨g4, fun t ht => by simp at ht⟩ (fun i G' h => SqT.of (g3.tb.at h.1.fr hb3 fun ps y => by cases y)) (fun i x σ G' hx hσ h'' => ?_) (fun G' h'' => ?_)
              · obtain ⟨o, rfl⟩ := hσ
                obtain ⟨g5, al⟩ := h''
                have hi : i < rs.length := by rw [← l]; exact (List.getElem?_eq_some_iff.mp hx).1
                obtain ⟨u, hu⟩ : ∃ u, rs[i]? = some u := ⟨rs[i], List.getElem?_eq_getElem hi⟩
                have hth := Go.th g2.tb (g3.trans g5) (ey i x u hx hu)
                have hb5 := g3.tb.at g5.fr hb3 (fun ps y => by cases y)
                refine ⟨_, rfl, _, rfl, b, ys, rfl, .inr (SqT.of hb5), _, rfl, p, _, (ys.length : Int), x, u, rfl, bc.go g3.tb g5, hth, g5.tb, fun H6 g6 => ?_⟩
                rw [show (ys.length : Int) = (rs.length : Int) by rw [l]]
                cases hb' : rowT (ansOf (nth 1 t)) (rs.length : Int) u with
                | true =>
                  refine .inl ⟨rfl, ⟨_, rfl⟩, g5.trans g6, fun t' ht' => ?_⟩
                  rw [List.take_add_one, hu] at ht'
                  rcases List.mem_append.mp ht' with h' | h'
                  · exact al t' h'
                  · have e' : t' = u := by simpa using h'
                    rw [e']; exact hb'
                | false =>
                  refine .inr ⟨rfl, ?_⟩
                  have q2 := q1 H6 ((g23.trans g5).trans g6)
                  have ea : rs.all (rowT (ansOf (nth 1 t)) (rs.length : Int)) = false := by
                    cases ha' : rs.all (rowT (ansOf (nth 1 t)) (rs.length : Int)) with
                    | false => rfl
                    | true => rw [List.all_eq_true.mp ha' u (List.mem_of_getElem? hu)] at hb'; cases hb'
                  rw [ea] at q2
                  exact q2
              · obtain ⟨g5, al⟩ := h''
                rw [l, List.take_length] at al
                have q2 := q1 G' (g23.trans g5)
                rw [List.all_eq_true.mpr al] at q2
                exact q2
        | _ =>
          have q1 := q0 H2 g2
          rw [et] at q1
          simp only [Th.isTup, Bool.false_and, Bool.and_false] at q1
          exact iteT' rfl (iteT' rfl q1)
end
end Ps

set_option Elab.async false
set_option linter.all false
set_option maxRecDepth 100000
set_option maxHeartbeats 2000000
/-! the law's own: shuffled. -/
namespace Lw
open PySem PySem.Spec PyProof.Rows L2 Sx Rp Dw NdefX GxR Rw Th Kd Gx Nm Hs Pr Ps
abbrev sShuf : Stmt := topS 35
abbrev sNames : Stmt := topS 36
abbrev sHouse : Stmt := topS 37
theorem scSh : FnScope ["draw", "some", "left", "found"] ["draw", "some"] (defScope sShuf) := ⟨rfl, rfl, rfl, by decide +kernel, rfl, by decide +kernel, by decide +kernel⟩
theorem str_ok {z : List Nat} (h : ∀ c ∈ z, c < 127) : PyData.strOk ⟨z.toArray⟩ = true := by
  simp [PyData.strOk]
  intro c hc
  have := h c hc
  omega
theorem map_er {α β : Type} (f : α → β) : ∀ (l : List α) (k : Nat), (l.map f).eraseIdx k = (l.eraseIdx k).map f
  | [], _ => by simp
  | x :: r, 0 => rfl
  | x :: r, k + 1 => by
    show f x :: (r.map f).eraseIdx k = f x :: (r.eraseIdx k).map f
    rw [map_er f r k]
theorem perm_er {α : Type} : ∀ (l : List α) (k : Nat) (x : α), l[k]? = some x → ([x] ++ l.eraseIdx k).Perm l
  | [], k, x, h => by simp at h
  | y :: r, 0, x, h => by
    have : y = x := by simpa using h
    subst this
    exact List.Perm.refl _
  | y :: r, k + 1, x, h => by
    have ih := perm_er r k x (by simpa using h)
    exact (List.Perm.swap y x _).trans (ih.cons y)
theorem But.trans {d wp : Addr} {H1 H2 H3 : Hp} (a : But d wp H1 H2) (b : But d wp H2 H3) : But d wp H1 H3 := fun x o e h1 h2 => b x o (a x o e h1 h2) h1 h2
theorem But.refl {d wp : Addr} {H : Hp} : But d wp H H := fun _ _ e _ _ => e
theorem but_new {d wp t : Addr} {H : Hp} {o : HO} (nt : H t = none) : But d wp H (upd H t o) := fun x u e _ _ => by rw [upd_ne (fun y => by rw [y, nt] at e; cases e)]; exact e
theorem dr_same {H H' : Hp} {d wp cp : Addr} {n : Nat} (k : ∀ b o, H b = some o → H' b = some o) (D : Dr H d wp cp n) : Dr H' d wp cp n := by
  obtain ⟨ws, cs, r, t, h, b⟩ := D
  exact ⟨ws, cs, r, t, ⟨k _ _ h.dc, k _ _ h.wl, k _ _ h.cl, h.cb, h.cn, h.wn, h.t0, h.nwc⟩, b⟩
theorem dr_new {H : Hp} {d wp cp t : Addr} {n : Nat} {o : HO} (nt : H t = none) (D : Dr H d wp cp n) : Dr (upd H t o) d wp cp n := dr_same (fun b u e => by rw [upd_ne (fun y => by rw [y, nt] at e; cases e)]; exact e) D
theorem dr_le {H : Hp} {d wp cp : Addr} {n m : Nat} (h : n ≤ m) (D : Dr H d wp cp m) : Dr H d wp cp n := by
  obtain ⟨ws, cs, r, t, a, b⟩ := D
  exact ⟨ws, cs, r, t, a, by omega⟩
theorem dr_put {H : Hp} {d wp cp L : Addr} {n : Nat} {o : HO} (D : Dr H d wp cp n) (h : L ≠ d ∧ L ≠ wp ∧ L ≠ cp) : Dr (upd H L o) d wp cp n := by
  obtain ⟨ws, cs, r, t, a, b⟩ := D
  exact ⟨ws, cs, r, t, ⟨by rw [upd_ne (Ne.symm h.1)]; exact a.dc, by rw [upd_ne (Ne.symm h.2.1)]; exact a.wl, by rw [upd_ne (Ne.symm h.2.2)]; exact a.cl, a.cb, a.cn, a.wn, a.t0, a.nwc⟩, b⟩
theorem dr_far {H : Hp} {d wp cp L : Addr} {n : Nat} (D : Dr H d wp cp n) (nL : H L = none) : L ≠ d ∧ L ≠ wp ∧ L ≠ cp := by
  obtain ⟨ws, cs, r, t, a, b⟩ := D
  exact ⟨(fun y => by rw [y, a.dc] at nL; cases nL), (fun y => by rw [y, a.wl] at nL; cases nL), (fun y => by rw [y, a.cl] at nL; cases nL)⟩
/-- texts of few plain signs, for a comparison of lists of them -/
def Pl (s : Str) : Prop := ∃ z : List Nat, s = ⟨z.toArray⟩ ∧ (∀ c ∈ z, c < 127) ∧ z.length ≤ 100
theorem all_shaped {l : List PyData} (h : ∀ d ∈ l, d.canLay0 = true ∧ d.depth ≤ 2) : SeqAt.shaped (.list l) = true := by
  have q : PyData.canLayAll0 l = true ∧ PyData.depthAll l ≤ 2 := by
    induction l with
    | nil => exact ⟨rfl, Nat.zero_le _⟩
    | cons d r ih =>
      obtain ⟨a, b⟩ := ih fun x hx => h x (List.mem_cons_of_mem _ hx)
      obtain ⟨c, e⟩ := h d List.mem_cons_self
      simp only [PyData.canLayAll0, PyData.depthAll, Bool.and_eq_true]
      exact ⟨⟨c, a⟩, Nat.max_le.mpr ⟨e, b⟩⟩
  refine Bool.and_eq_true_iff.mpr ⟨by simpa [PyData.canLay0] using q.1, decide_eq_true ?_⟩
  have e : (PyData.list l).depth = PyData.depthAll l + 1 := by simp [PyData.depth]
  have q2 := q.2
  rw [e]; omega
theorem strs_shaped {l : List Str} (h : ∀ s ∈ l, Pl s) : SeqAt.shaped (.list (l.map PyData.str)) = true := all_shaped fun d hd => by
  obtain ⟨s, hs, rfl⟩ := List.mem_map.mp hd
  obtain ⟨z, rfl, hz, _⟩ := h s hs
  exact ⟨str_ok hz, by simp [PyData.depth]⟩
theorem dp_strs {K : PySem.W.Frag} {H : Hp} : ∀ l : List Str, DpAll K H (l.map V.str) (l.map PyData.str)
  | [] => .nil
  | s :: r => .cons (.str s) (dp_strs r)
section
variable {P : Program} {w : World} {K : PySem.W.Frag} {mg : Str → Option Value} {base : Heap}
def spShuf (K : PySem.W.Frag) : Sp := fun vs H Q _ => ∃ (d wp cp a : Addr) (n : Nat) (ss : List Str), vs = [.ref d, .ref a] ∧ SqL K H a (ss.map V.str) ∧ ss.length ≤ 100 ∧ (∀ s ∈ ss, Pl s) ∧ Dr H d wp cp (n + ss.length) ∧
  ∀ (p : Addr) (ys : List Str) (H' : Hp), ys.Perm ss → H p = none → H' p = some (.lst (ys.map V.str)) → Dr H' d wp cp n → But d wp H H' → Q (.ref p) H'
theorem ok_shuf {f g : Addr} {fd gd : FuncData} (F : Fun K "_law_shuffled" "_law_shuffled" sShuf f fd) (ml : mg "len" = none) (mL : mg "list" = none)
    (G : FnOk P w K mg base CX0 2 g gd ["draw", "many"] spTake) (mgf : mg "_law_take" = some (.ref g)) (kp : PySem.W.keepIn K (.ref g) = true) (b : Binds K gd ["draw", "many"] []) : FnOk P w K mg base CX0 3 f fd ["draw", "some"] (spShuf K) := by
  refine F.ok scSh (fun vs H Q E h => ?_) (fun cdv A outer s H vs Q E hr h => ?_)
  · obtain ⟨d, wp, cp, a, n, ss, rfl, _⟩ := h
    rfl
  · obtain ⟨d, wp, cp, a, n, ss, rfl, ha, hl, hz, D, k⟩ := h
    refine ⟨_, pss_cons (ps_par (by rfl) scSh.nd (i := 2) (j := 3) rfl rfl (by decide) rfl rfl (pa_cons (pe_callTy call_list_of (by rfl) mL (by decide +kernel) (pa_cons (pv 1) pa_nil)) (pa_cons (pe_lst pa_nil) pa_nil)) (by rfl))
      (pss_cons (ps_while PassesOwn.never (pt_cmpR (op_neD hr.units) (pv 2) (pe_lst pa_nil) (nomark _))
        (pss_one (ps_expr (pe_bm PySem.F.plainAttrs_list PySem.F.slot_list_append PySem.F.type_list_append mt_append (pv 3) (pa_cons
          (pe_bm PySem.F.plainAttrs_list PySem.F.slot_list_pop PySem.F.type_list_pop mt_popAt (pv 2) (pa_cons (pe_call G (hr.mono (by decide)) rfl mgf kp b .nil pass0 (pa_cons (pv 0) (pa_cons (pe_callB call_len_seq (by rfl) ml PySem.boot_len (pa_cons (pv 2) pa_nil)) pa_nil))) pa_nil)) pa_nil)))))
      (pss_one (ps_ret (pv 3)))), ?_⟩
    refine ⟨_, rfl, a, _, rfl, .inl ha, fun l nl => ⟨Nat.zero_le _, fun f nf => ⟨_, _, rfl, ?_⟩⟩⟩
    have nlf : f ≠ l := fun y => by rw [y, upd_same] at nf; cases nf
    have nfH : H f = none := by rw [upd_ne nlf] at nf; exact nf
    have fl := dr_far D nl
    have ff := dr_far D nfH
    refine ⟨fun m σ G => ∃ as bs : List Str, σ = [some (.ref d), some (.ref a), some (.ref l), some (.ref f)] ∧ G l = some (.lst (as.map V.str)) ∧ G f = some (.lst (bs.map V.str)) ∧ (bs ++ as).Perm ss ∧ m = as.length ∧ Dr G d wp cp (n + as.length) ∧ But d wp H G,
      ⟨ss.length, ss, [], rfl, by rw [upd_ne (Ne.symm nlf), upd_same], upd_same, by simp, rfl, dr_put (dr_new nl D) ff, But.trans (but_new nl) (but_new nf)⟩, fun m σ G h => ?_⟩
    obtain ⟨as, bs, rfl, hGl, hGf, pm, rfl, DG, BG⟩ := h
    have la : as.length ≤ 100 := by have := pm.length_eq; rw [List.length_append] at this; omega
    have lb : bs.length ≤ 100 := by have := pm.length_eq; rw [List.length_append] at this; omega
    have za : ∀ s ∈ as, Pl s := fun s hs => hz s (pm.mem_iff.mp (List.mem_append_right _ hs))
    refine ⟨_, rfl, Nat.zero_le _, fun M nM => ⟨.list (as.map PyData.str), .list [], .lst (SqL.of (by rw [upd_ne (fun y => by rw [y] at hGl; rw [hGl] at nM; cases nM)]; exact hGl)) (dp_strs as), .lst (SqL.of upd_same) .nil, strs_shaped za, by decide +kernel, _, rfl, ?_⟩⟩
    have kM : ∀ b o, G b = some o → (upd G M (.lst [])) b = some o := fun b o e => by rw [upd_ne (fun y => by rw [y, nM] at e; cases e)]; exact e
    have BM : But d wp H (upd G M (.lst [])) := But.trans BG (but_new nM)
    have DM := dr_new (o := .lst []) nM DG
    have hMl := kM _ _ hGl
    have hMf := kM _ _ hGf
    generalize upd G M (.lst []) = G2 at BM DM hMl hMf
    cases as with
    | nil =>
      refine iteF' (by simp [PyData.eqv, PyData.eqvAll]) ?_
      refine ⟨_, rfl, k f bs G2 (by simpa using pm) nfH hMf (dr_le (by simp) DM) BM⟩
    | cons s0 sr =>
      refine iteT' (by simp [PyData.eqv, PyData.eqvAll]) ?_
      have Dn : Dr G2 d wp cp ((n + sr.length) + 1) := dr_le (by simp; omega) DM
      refine ⟨fun σ G => ∃ m, m < (s0 :: sr).length ∧ ∃ as bs : List Str, σ = [some (.ref d), some (.ref a), some (.ref l), some (.ref f)] ∧ G l = some (.lst (as.map V.str)) ∧ G f = some (.lst (bs.map V.str)) ∧ (bs ++ as).Perm ss ∧ m = as.length ∧ Dr G d wp cp (n + as.length) ∧ But d wp H G, fun σ' H' h => h, ?_⟩
      refine ⟨_, rfl, .inl ⟨rfl, _, SqL.of hMf⟩, _, rfl, .inl ⟨rfl, _, SqL.of hMl⟩, _, rfl, _, rfl, l, _, rfl, .inl (SqL.of hMl), ?_⟩
      refine ⟨d, wp, cp, n + sr.length, (((s0 :: sr).map V.str).length : Int), rfl, Dn, by rw [List.length_map]; simp, by rw [List.length_map]; simp only [List.length_cons] at la ⊢; omega, fun v G3 v0 v1 D3 B3 => ?_⟩
      have h3l := B3 l _ hMl fl.1 fl.2.1
      have h3f := B3 f _ hMf ff.1 ff.2.1
      have hv : v.toNat < (s0 :: sr).length := by simp at v1; simp; omega
      have hs : (s0 :: sr)[v.toNat]? = some ((s0 :: sr)[v.toNat]) := List.getElem?_eq_getElem hv
      refine ⟨l, _, v, v.toNat, _, rfl, rfl, h3l, by omega, by simp at v1; omega, ?_, by rw [List.getElem?_map, hs]; rfl, ?_⟩
      · unfold seqIndex?
        simp at v1
        simp
        omega
      refine ⟨f, _, _, rfl, rfl, by rw [upd_ne nlf]; exact h3f, by rw [List.length_map, sizeLine_eq]; omega, sr.length, by simp, (s0 :: sr).eraseIdx v.toNat, bs ++ [(s0 :: sr)[v.toNat]], rfl, ?_, ?_, ?_, ?_, ?_, ?_⟩
      · rw [upd_ne (Ne.symm nlf), upd_same]
        congr 2
        exact map_er V.str _ _
      · rw [upd_same, List.map_append]; rfl
      · refine List.Perm.trans ?_ pm
        rw [List.append_assoc]
        refine List.Perm.append_left _ ?_
        exact perm_er _ _ _ hs
      · rw [List.length_eraseIdx]; simp at hv; simp [hv]
      · refine dr_put (dr_put (dr_le ?_ D3) fl) ff
        rw [List.length_eraseIdx]; simp at hv; simp [hv]
      · exact fun b o e h1 h2 => by
          rw [upd_ne (fun y => by rw [y, nfH] at e; cases e), upd_ne (fun y => by rw [y, nl] at e; cases e)]
          exact But.trans BM B3 b o e h1 h2
end
end Lw

set_option Elab.async false
set_option linter.all false
set_option maxRecDepth 100000
set_option maxHeartbeats 2000000
/-! the law's own: names, house. -/
namespace Lh
open PySem PySem.Spec PyProof.Rows L2 Sx Rp Dw NdefX GxR Rw Th Kd Gx Nm Hs Pr Ps Lw
theorem scNa : FnScope ["draw", "many", "letters", "k"] ["draw", "many"] (defScope sNames) := ⟨rfl, rfl, rfl, by decide +kernel, rfl, by decide +kernel, by decide +kernel⟩
theorem scHs : FnScope ["draw", "names", "pool", "calls", "name", "replies"] ["draw"] (defScope sHouse) := ⟨rfl, rfl, rfl, by decide +kernel, rfl, by decide +kernel, by decide +kernel⟩
def abcL : List Nat := (Str.ofString "abcdefghijklmnopqrstuvwxyz").cps.toList
theorem abc_at {j : Nat} (h : j < 26) : atI abcL (j : Int) = some (97 + j) := by
  have q : ∀ j : Nat, j < 26 → abcL[j]? = some (97 + j) := by
    intro j hj
    have e : abcL = (List.range 26).map (97 + ·) := by decide +kernel
    rw [e]; simp [hj]
  exact atI_nat (q j h)
def sfxS : List Str := (["", "", "q", "zz"] : List String).map Str.ofString
def sfxV : List V := [.str "", .str "", .str "q", .str "zz"]
theorem sfx_get {i : Nat} {y : V} (h : sfxV[i]? = some y) : ∃ x ∈ sfxS, y = .str x := by
  match i, h with
  | 0, h => exact ⟨Str.ofString "", by decide +kernel, (by cases h; rfl)⟩
  | 1, h => exact ⟨Str.ofString "", by decide +kernel, (by cases h; rfl)⟩
  | 2, h => exact ⟨Str.ofString "q", by decide +kernel, (by cases h; rfl)⟩
  | 3, h => exact ⟨Str.ofString "zz", by decide +kernel, (by cases h; rfl)⟩
  | n + 4, h => simp [sfxV] at h
/-- a drawn name -/
structure Nam (s : Str) : Prop where
  nm : isName s.cps.toList = true
  pl : Pl s
  sh : s.cps.toList.length ≤ 3
theorem nam_ok : ∀ j < 26, ∀ x ∈ sfxS, isName ((97 + j) :: x.cps.toList) = true ∧ (((97 + j) :: x.cps.toList).all fun c => decide (c < 127)) = true ∧ x.cps.toList.length ≤ 2 := by decide +kernel
theorem nam_of {j : Nat} {x : Str} (h : j < 26) (hx : x ∈ sfxS) : Nam ((⟨#[97 + j]⟩ : Str) ++ x) ∧ ((⟨#[97 + j]⟩ : Str) ++ x).cps.toList.head? = some (97 + j) := by
  obtain ⟨a, b, c⟩ := nam_ok j h x hx
  have e : ((⟨#[97 + j]⟩ : Str) ++ x).cps.toList = (97 + j) :: x.cps.toList := by
    show (#[97 + j] ++ x.cps).toList = _
    simp
  refine ⟨⟨by rw [e]; exact a, ⟨((97 + j) :: x.cps.toList), ?_, fun c hc => of_decide_eq_true (List.all_eq_true.mp b c hc), by rw [List.length_cons]; omega⟩, by rw [e, List.length_cons]; omega⟩, by rw [e]; rfl⟩
  have e2 : ((⟨#[97 + j]⟩ : Str) ++ x) = ⟨((⟨#[97 + j]⟩ : Str) ++ x).cps.toList.toArray⟩ := by
    show (⟨#[97 + j] ++ x.cps⟩ : Str) = ⟨_⟩
    congr 1
  rw [e2, e]
theorem but_none {H G : Hp} {d wp cp p : Addr} {n : Nat} (D : Dr G d wp cp n) (B : But d wp H G) (np : G p = none) : H p = none := by
  cases e : H p with
  | none => rfl
  | some o =>
    have far := dr_far D np
    rw [B p o e far.1 far.2.1] at np
    cases np
/-- what is put into tuples stays; lists stay lists, dicts dicts -/
structure Soft (H H' : Hp) : Prop where
  tup : ∀ b xs, H b = some (.tup xs) → H' b = some (.tup xs)
  lst : ∀ b xs, H b = some (.lst xs) → ∃ ys, H' b = some (.lst ys)
  dic : ∀ b xs, H b = some (.dK xs) → ∃ ys, H' b = some (.dK ys)
theorem Soft.th {H H' : Hp} (k : Soft H H') {v : V} {t : Th} (h : IsTh H v t) : IsTh H' v t := by
  induction h with
  | non => exact .non
  | bl b => exact .bl b
  | int i => exact .int i
  | str z h => exact .str z h
  | tup a xs ts h l z e ih => exact .tup a xs ts (k.tup _ _ h) l z ih
  | lst a xs h => obtain ⟨ys, e⟩ := k.lst _ _ h; exact .lst a ys e
  | dic a xs h => obtain ⟨ys, e⟩ := k.dic _ _ h; exact .dic a ys e
theorem Soft.keep {H H' : Hp} (k : ∀ b o, H b = some o → H' b = some o) : Soft H H' := ⟨fun _ _ e => k _ _ e, fun _ xs e => ⟨xs, k _ _ e⟩, fun _ xs e => ⟨xs, k _ _ e⟩⟩
theorem Soft.trans {H1 H2 H3 : Hp} (a : Soft H1 H2) (b : Soft H2 H3) : Soft H1 H3 := ⟨fun x xs e => b.tup _ _ (a.tup _ _ e), fun x xs e => let ⟨_, e2⟩ := a.lst _ _ e; b.lst _ _ e2, fun x xs e => let ⟨_, e2⟩ := a.dic _ _ e; b.dic _ _ e2⟩
theorem Soft.list {H : Hp} {c : Addr} {xs ys : List V} (h : H c = some (.lst xs)) : Soft H (upd H c (.lst ys)) := by
  refine ⟨fun b zs e => ?_, fun b zs e => ?_, fun b zs e => ?_⟩
  · rw [upd_ne (fun y => by rw [y, h] at e; cases e)]; exact e
  · by_cases y : b = c
    · rw [y, upd_same]; exact ⟨ys, rfl⟩
    · rw [upd_ne y]; exact ⟨zs, e⟩
  · rw [upd_ne (fun y => by rw [y, h] at e; cases e)]; exact ⟨zs, e⟩
theorem soft_but {H H' : Hp} {d wp cp : Addr} {n m : Nat} (D : Dr H d wp cp n) (D' : Dr H' d wp cp m) (k : But d wp H H') : Soft H H' := by
  obtain ⟨ws, cs, r, t, a, _⟩ := D
  obtain ⟨ws', cs', r', t', a', _⟩ := D'
  refine ⟨fun b zs e => k b _ e (fun y => by rw [y, a.dc] at e; cases e) (fun y => by rw [y, a.wl] at e; cases e), fun b zs e => ?_, fun b zs e => ?_⟩
  · by_cases y : b = wp
    · rw [y]; exact ⟨_, a'.wl⟩
    · exact ⟨_, k b _ e (fun y => by rw [y, a.dc] at e; cases e) y⟩
  · by_cases y : b = d
    · rw [y]; exact ⟨_, a'.dc⟩
    · exact ⟨_, k b _ e y (fun y => by rw [y, a.wl] at e; cases e)⟩
section
variable {P : Program} {w : World} {K : PySem.W.Frag} {mg : Str → Option Value} {base : Heap} {T : List Addr}
def spNames : Sp := fun vs H Q _ => ∃ (d wp cp : Addr) (n m : Nat), vs = [.ref d, .int (m : Int)] ∧ m ≤ 26 ∧ Dr H d wp cp (n + 2 * m) ∧
  ∀ (p : Addr) (ys : List Str) (H' : Hp), ys.length = m → (∀ s ∈ ys, Nam s) → ys.Nodup → H p = none → H' p = some (.lst (ys.map V.str)) → Dr H' d wp cp n → But d wp H H' → Q (.ref p) H'
theorem ok_lnames {f fp fs : Addr} {fd pd sd : FuncData} (F : Fun K "_law_names" "_law_names" sNames f fd) (mr : mg "range" = none)
    (Fp : FnOk P w K mg base CX0 3 fp pd ["draw", "some"] spPick) (mp : mg "_law_pick" = some (.ref fp)) (kp : PySem.W.keepIn K (.ref fp) = true) (bp : Binds K pd ["draw", "some"] [])
    (Fs : FnOk P w K mg base CX0 3 fs sd ["draw", "some"] (spShuf K)) (ms : mg "_law_shuffled" = some (.ref fs)) (ks : PySem.W.keepIn K (.ref fs) = true) (bs : Binds K sd ["draw", "some"] []) : FnOk P w K mg base CX0 4 f fd ["draw", "many"] spNames := by
  refine F.ok scNa (fun vs H Q E h => ?_) (fun cdv A outer s H vs Q E hr h => ?_)
  · obtain ⟨d, wp, cp, n, m, rfl, _⟩ := h
    rfl
  · obtain ⟨d, wp, cp, n, m, rfl, hm, D, k⟩ := h
    refine ⟨_, pss_cons (ps_set (i := 2) scNa.nd rfl (Or.inr rfl) pe_str)
      (pss_one (ps_ret (pe_call Fs hr rfl ms ks bs .nil pass0 (pa_cons (pv 0) (pa_cons (pe_lc (own := [("k", 3)]) (g := gName 3) (tt := tYes) (te := tOp (fun x y H Q => ∃ i j, x = .str i ∧ y = .str j ∧ i.length + j.length ≤ sizeLine ∧ Q (.str (i ++ j)) H) (tOp rIxS (tVar 2) (tVar 3)) (tCall spPick [] E0 (tCons (tVar 0) (tCons (tLst (tCons (tC (.str "")) (tCons (tC (.str "")) (tCons (tC (.str "q")) (tCons (tC (.str "zz")) tNil))))) tNil)))) (by rfl) scNa.nd
        (pi_range1 (by rfl) mr (pa_cons (pv 1) pa_nil)) (blkOk_by (own := [("k", 3)]) (N := ["draw", "many", "letters", "k"]) (sc := defScope sNames) (by decide +kernel)) (fun _ _ _ _ _ => pg_name (i := 3) scNa.nd rfl (Or.inl rfl)) (fun _ _ _ _ _ => pts_nil)
        (fun _ _ _ _ _ => pe_op op_add_str (pe_ix ix_str (pv 2) (pv 3) (fun _ _ => rfl)) (pe_call Fp hr rfl mp kp bp .nil pass0 (pa_cons (pv 0) (pa_cons (pe_lst (pa_cons pe_str (pa_cons pe_str (pa_cons pe_str (pa_cons pe_str pa_nil))))) pa_nil))))) pa_nil))))), ?_⟩
    refine ⟨_, rfl, _, rfl, (m : Int), rfl, by omega, by omega, fun L nL => ?_⟩
    have far := dr_far D nL
    refine lc_range (lo := 0) (n := m) (fun i G => ∃ ss : List Str, G L = some (.lst (ss.map V.str)) ∧ ss.length = i ∧ (∀ (j : Nat) (s : Str), ss[j]? = some s → ∃ x ∈ sfxS, s = (⟨#[97 + j]⟩ : Str) ++ x) ∧ Dr G d wp cp (n + 2 * m - i) ∧ But d wp H G) ⟨[], upd_same, rfl, (fun j s h => by simp at h), dr_put D far, but_new nL⟩ (fun i G hi h => ?_) (fun G h => ?_)
    · obtain ⟨ss, hL, ls, hss, DG, BG⟩ := h
      refine ⟨rfl, _, rfl, _, rfl, "abcdefghijklmnopqrstuvwxyz", _, (97 + i), rfl, rfl, by decide +kernel, ?_, _, rfl, (show 4 ≤ sizeLine by decide), fun q nq => ?_⟩
      · rw [Int.zero_add]; exact abc_at (by omega)
      have DG1 : Dr (upd G q (.lst sfxV)) d wp cp ((n + 2 * m - (i + 1)) + 1) := dr_le (by omega) (dr_new nq DG)
      refine ⟨d, wp, cp, q, n + 2 * m - (i + 1), sfxV, rfl, DG1, upd_same, ?_, by decide, by decide, fun i' y H4 hy D4 B4 => ?_⟩
      · intro z
        obtain ⟨ws, cs, r, t, a, _⟩ := DG
        rw [z, a.wl] at nq; cases nq
      obtain ⟨x, hx, rfl⟩ := sfx_get hy
      have hL2 : (upd G q (.lst sfxV)) L = some (.lst (ss.map V.str)) := by rw [upd_ne (fun y => by rw [y] at hL; rw [hL] at nq; cases nq)]; exact hL
      have hx2 := (nam_ok i (by omega) x hx).2.2
      refine ⟨_, x, rfl, rfl, ?_, _, B4 _ _ hL2 far.1 far.2.1, by rw [List.length_map, ls, sizeLine_eq]; omega, ss ++ [(⟨#[97 + i]⟩ : Str) ++ x], ?_, by rw [List.length_append, ls]; rfl, fun j s hj => ?_, dr_put D4 far, fun b o e h1 h2 => ?_⟩
      · have : x.length ≤ 2 := by simpa [Str.length] using hx2
        show 1 + x.length ≤ sizeLine
        rw [sizeLine_eq]; omega
      · rw [upd_same, List.map_append]; rfl
      · by_cases hlt : j < ss.length
        · rw [List.getElem?_append_left hlt] at hj
          exact hss j s hj
        · have hj' := (List.getElem?_eq_some_iff.mp hj).1
          simp at hj'
          have : j = i := by omega
          subst this
          rw [List.getElem?_append_right (by omega), ls, Nat.sub_self] at hj
          cases hj
          exact ⟨x, hx, rfl⟩
      · rw [upd_ne (fun y => by rw [y, nL] at e; cases e)]
        refine B4 b o ?_ h1 h2
        have := BG b o e h1 h2
        rw [upd_ne (fun y => by rw [y, nq] at this; cases this)]; exact this
    · obtain ⟨ss, hL, ls, hss, DG, BG⟩ := h
      have hall : ∀ s ∈ ss, Nam s := fun s hs => by
        obtain ⟨j, hj, rfl⟩ := List.getElem_of_mem hs
        obtain ⟨x, hx, e⟩ := hss j _ (List.getElem?_eq_getElem hj)
        rw [e]
        exact (nam_of (by omega) hx).1
      have hnd : ss.Nodup := by
        refine List.pairwise_iff_getElem.mpr fun i j hi hj hij e3 => ?_
        obtain ⟨x, hx, e1⟩ := hss i _ (List.getElem?_eq_getElem hi)
        obtain ⟨y, hy, e2⟩ := hss j _ (List.getElem?_eq_getElem hj)
        have h1 := (nam_of (j := i) (x := x) (by omega) hx).2
        have h2 := (nam_of (j := j) (x := y) (by omega) hy).2
        rw [← e1, e3, e2, h2] at h1
        have := Option.some.inj h1
        omega
      refine ⟨d, wp, cp, L, n, ss, rfl, SqL.of hL, by omega, fun s hs => (hall s hs).pl, dr_le (by omega) DG, fun p ys H' pm np hp D' B' => ?_⟩
      refine k p ys H' (by rw [pm.length_eq, ls]) (fun s hs => hall s (pm.mem_iff.mp hs)) (pm.nodup_iff.mpr hnd) ?_ hp D' (But.trans BG B')
      exact but_none DG BG np
/-- sixty-four bits are not met -/
theorem sIx_i {n d k : Nat} : HT.sIx n d (some (k : Int)) = min k n := by
  show (if (k : Int) < 0 then ((k : Int) + (n : Int)).toNat else min (k : Int).toNat n) = min k n
  rw [if_neg (by omega), Int.toNat_natCast]
theorem cut_head (ss : List Str) (k : Nat) : cutV (ss.map V.str) none (some (k : Int)) = (ss.take k).map V.str := by
  unfold cutV
  rw [sIx_i, HT.sIx_none, List.drop_zero, Nat.sub_zero, List.map_take, List.length_map, List.take_eq_take_min (i := k), List.length_map]
theorem cut_mid (ss : List Str) (i k : Nat) (h : i ≤ k) (hk : k ≤ ss.length) : cutV (ss.map V.str) (some (i : Int)) (some (k : Int)) = ((ss.drop i).take (k - i)).map V.str := by
  unfold cutV
  rw [sIx_i, sIx_i, List.length_map, Nat.min_eq_left hk, Nat.min_eq_left (by omega), List.map_take, List.map_drop]
/-- a house of few calls, whose names are all drawn ones -/
structure HouseD (t : Th) : Prop where
  ok : houseT t = true
  one : 1 ≤ (items (nth 1 t)).length
  nam : ∀ s ∈ namesOf t, Nam s
  ans : ∀ ns ∈ ansOf t, 1 ≤ ns.length ∧ ns.length ≤ 3 ∧ ∀ s ∈ ns, Nam s
  few : (items (nth 1 t)).length ≤ 3
def sT (s : Str) : Th := .str s.cps.toList
theorem sT_arr (s : Str) : (⟨s.cps.toList.toArray⟩ : Str) = s := by cases s; simp
theorem isTh_str {H : Hp} {s : Str} (h : Nam s) : IsTh H (.str s) (sT s) := by
  obtain ⟨z, e, hlo, hz⟩ := h.pl
  have q : IsTh H (.str ⟨s.cps.toList.toArray⟩) (.str s.cps.toList) := .str _ ⟨by rw [e]; simp; omega, by rw [e]; simpa using hlo⟩
  rw [sT_arr] at q
  exact q
theorem strsOf_sT : ∀ l : List Str, strsOf (l.map sT) = l
  | [] => rfl
  | x :: r => by
    show (⟨x.cps.toList.toArray⟩ : Str) :: strsOf (r.map sT) = x :: r
    rw [sT_arr, strsOf_sT r]
theorem namesT_sT {l : List Str} {n : Nat} (h1 : 1 ≤ l.length) (h2 : l.length ≤ n) (h3 : ∀ s ∈ l, Nam s) (h4 : l.Nodup) : namesT n (.tup (l.map sT)) = true := by
  unfold namesT
  simp only [List.length_map, decide_eq_true h1, decide_eq_true h2, strsOf_sT, decide_eq_true h4, Bool.true_and, Bool.and_true]
  refine List.all_eq_true.mpr fun t ht => ?_
  obtain ⟨s, hs, rfl⟩ := List.mem_map.mp ht
  exact (h3 s hs).nm
/-- a tuple of drawn names -/
theorem isTh_names {H : Hp} {p : Addr} {l : List Str} (h : H p = some (.tup (l.map V.str))) (h3 : ∀ s ∈ l, Nam s) (hl : l.length ≤ 100000) : IsTh H (.ref p) (.tup (l.map sT)) :=
  .tup p _ _ h (by simp) (by simpa using hl) fun i v t h1 h2 => by
    rw [List.getElem?_map] at h1 h2
    obtain ⟨s, hs, rfl⟩ := Option.map_eq_some_iff.mp h1
    rw [hs] at h2
    cases h2
    exact isTh_str (h3 s (List.mem_of_getElem? hs))
def cT (x : Str) (l : List Str) : Th := .tup [sT "call", sT x, .tup (l.map sT)]
def hT (cs : List (Str × List Str)) : Th := .tup [sT "house", .tup (cs.map fun c => cT c.1 c.2)]
structure CallsD (cs : List (Str × List Str)) : Prop where
  nam : ∀ c ∈ cs, Nam c.1
  ans : ∀ c ∈ cs, 1 ≤ c.2.length ∧ c.2.length ≤ 3 ∧ (∀ s ∈ c.2, Nam s) ∧ c.2.Nodup
theorem callT_cT {x : Str} {l : List Str} (hx : Nam x) (h1 : 1 ≤ l.length) (h2 : l.length ≤ 5) (h3 : ∀ s ∈ l, Nam s) (h4 : l.Nodup) : callT (cT x l) = true := by
  unfold callT
  have a : toldT (cT x l) "call" 3 = true := by
    show (decide (((2 + 1 : Nat) : Int) = 3) && decide ((⟨(Str.ofString "call").cps.toList.toArray⟩ : Str) = "call")) = true
    decide +kernel
  have b : nameT (Hs.nth 1 (cT x l)) = true := hx.nm
  have c : namesT 5 (Hs.nth 2 (cT x l)) = true := namesT_sT h1 h2 h3 h4
  rw [a, b, c]; rfl
theorem houseD {cs : List (Str × List Str)} (h : CallsD cs) (h1 : 1 ≤ cs.length) (h5 : cs.length ≤ 3) (nd : (cs.map (·.1)).Nodup) : HouseD (hT cs) := by
  have e1 : Hs.nth 1 (hT cs) = .tup (cs.map fun c => cT c.1 c.2) := rfl
  have en : (cs.map fun c => cT c.1 c.2).map (Hs.nth 1) = (cs.map (·.1)).map sT := by
    rw [List.map_map, List.map_map]; rfl
  have ea : (cs.map fun c => cT c.1 c.2).map (fun c => strsOf (items (Hs.nth 2 c))) = cs.map (·.2) := by
    rw [List.map_map]
    refine List.map_congr_left fun c _ => ?_
    exact strsOf_sT c.2
  refine ⟨?_, ?_, fun s hs => ?_, fun ns hns => ?_, by show (cs.map fun c => cT c.1 c.2).length ≤ 3; simpa using h5⟩
  · unfold houseT
    have a : toldT (hT cs) "house" 2 = true := by
      show (decide (((1 + 1 : Nat) : Int) = 2) && decide ((⟨(Str.ofString "house").cps.toList.toArray⟩ : Str) = "house")) = true
      decide +kernel
    have b : (items (Hs.nth 1 (hT cs))).all callT = true := List.all_eq_true.mpr fun t ht => by
      obtain ⟨c, hc, rfl⟩ := List.mem_map.mp (show t ∈ cs.map fun c => cT c.1 c.2 from ht)
      obtain ⟨q1, q2, q3, q4⟩ := h.ans c hc
      exact callT_cT (h.nam c hc) q1 (by omega) q3 q4
    have c : namesT 5 (.tup ((items (Hs.nth 1 (hT cs))).map (Hs.nth 1))) = true := by
      show namesT 5 (.tup ((cs.map fun c => cT c.1 c.2).map (Hs.nth 1))) = true
      rw [en]
      refine namesT_sT (by simpa using h1) (by simp; omega) (fun s hs => ?_) nd
      obtain ⟨c, hc, rfl⟩ := List.mem_map.mp hs
      exact h.nam c hc
    rw [a, b, c]; rfl
  · show 1 ≤ (cs.map fun c => cT c.1 c.2).length
    simpa using h1
  · unfold Pr.namesOf at hs
    have hs' : s ∈ strsOf ((cs.map fun c => cT c.1 c.2).map (Hs.nth 1)) := hs
    rw [en, strsOf_sT] at hs'
    obtain ⟨c, hc, rfl⟩ := List.mem_map.mp hs'
    exact h.nam c hc
  · unfold ansOf at hns
    have hs' : ns ∈ (cs.map fun c => cT c.1 c.2).map (fun c => strsOf (items (Hs.nth 2 c))) := hns
    rw [ea] at hs'
    obtain ⟨c, hc, rfl⟩ := List.mem_map.mp hs'
    obtain ⟨q1, q2, q3, _⟩ := h.ans c hc
    exact ⟨q1, q2, q3⟩
theorem nam_kept : ∀ x ∈ (["call", "house"] : List String).map Str.ofString, x.cps.toList.length ≤ 100 := by decide +kernel
theorem isTh_word {H : Hp} {x : Str} (h : x.cps.toList.length ≤ 100000 ∧ ∀ c ∈ x.cps.toList, c < 127) : IsTh H (.str x) (sT x) := by
  have q : IsTh H (.str ⟨x.cps.toList.toArray⟩) (.str x.cps.toList) := .str _ h
  rw [sT_arr] at q
  exact q
def spHouseD : Sp := fun vs H Q _ => ∃ (d wp cp : Addr) (n : Nat), vs = [.ref d] ∧ Dr H d wp cp (n + 100) ∧ ∀ (p : Addr) (t : Th) (H' : Hp), IsTh H' (.ref p) t → HouseD t → Dr H' d wp cp n → But d wp H H' → Q (.ref p) H'
theorem ok_house {f fp fs fn : Addr} {fd pd sd nd : FuncData} (F : Fun K "_law_house" "_law_house" sHouse f fd) (mt : mg "tuple" = none)
    (Fp : FnOk P w K mg base CX0 3 fp pd ["draw", "some"] spPick) (mp : mg "_law_pick" = some (.ref fp)) (kp : PySem.W.keepIn K (.ref fp) = true) (bp : Binds K pd ["draw", "some"] [])
    (Fs : FnOk P w K mg base CX0 3 fs sd ["draw", "some"] (spShuf K)) (ms : mg "_law_shuffled" = some (.ref fs)) (ks : PySem.W.keepIn K (.ref fs) = true) (bs : Binds K sd ["draw", "some"] [])
    (Fn : FnOk P w K mg base CX0 4 fn nd ["draw", "many"] spNames) (mn : mg "_law_names" = some (.ref fn)) (kn : PySem.W.keepIn K (.ref fn) = true) (bn : Binds K nd ["draw", "many"] []) : FnOk P w K mg base CX0 5 f fd ["draw"] spHouseD := by
  refine F.ok scHs (fun vs H Q E h => ?_) (fun cdv A outer s H vs Q E hr h => ?_)
  · obtain ⟨d, wp, cp, n, rfl, _⟩ := h
    rfl
  · obtain ⟨d, wp, cp, n, rfl, D, k⟩ := h
    refine ⟨_, pss_cons (ps_set (i := 1) scHs.nd rfl (Or.inl rfl) (pe_call Fn hr rfl mn kn bn .nil pass0 (pa_cons (pv 0) (pa_cons pe_int pa_nil))))
      (pss_cons (ps_par (by rfl) scHs.nd (i := 2) (j := 3) rfl rfl (by decide) rfl rfl (pa_cons (pe_slice sl_list (pv 1) po_none (po_some pe_int)) (pa_cons (pe_lst pa_nil) pa_nil)) (by rfl))
      (pss_cons (ps_for PassesOwn.never rfl (pi_list (pe_slice sl_list (pv 1) (po_some pe_int) (po_some (pe_op op_add pe_int (pe_call Fp (hr.mono (by decide)) rfl mp kp bp .nil pass0 (pa_cons (pv 0) (pa_cons (pe_lst (pa_cons pe_int (pa_cons pe_int (pa_cons pe_int (pa_cons pe_int (pa_cons pe_int (pa_cons pe_int pa_nil))))))) pa_nil))))))) (pg_name (i := 4) scHs.nd rfl (Or.inl rfl))
        (pss_cons (ps_set (i := 5) scHs.nd rfl (Or.inl rfl) (pe_slice sl_list (pe_call Fs (hr.mono (by decide)) rfl ms ks bs .nil pass0 (pa_cons (pv 0) (pa_cons (pv 2) pa_nil))) po_none (po_some (pe_call Fp (hr.mono (by decide)) rfl mp kp bp .nil pass0 (pa_cons (pv 0) (pa_cons (pe_lst (pa_cons pe_int (pa_cons pe_int (pa_cons pe_int (pa_cons pe_int (pa_cons pe_int pa_nil)))))) pa_nil))))))
        (pss_one (ps_expr (pe_bm PySem.F.plainAttrs_list PySem.F.slot_list_append PySem.F.type_list_append mt_append (pv 3) (pa_cons (pe_tup (pa_cons pe_str (pa_cons (pv 4) (pa_cons (pe_callTy call_tuple_of (by rfl) mt (by decide +kernel) (pa_cons (pv 5) pa_nil)) pa_nil)))) pa_nil))))))
      (pss_one (ps_ret (pe_tup (pa_cons pe_str (pa_cons (pe_callTy call_tuple_of (by rfl) mt (by decide +kernel) (pa_cons (pv 3) pa_nil)) pa_nil))))))), ?_⟩
    refine ⟨_, rfl, d, wp, cp, n + 80, 9, rfl, by decide, dr_le (by omega) D, fun p ys H1 ly hnm hnd np hp D1 B1 => ?_⟩
    have farp := dr_far D np
    refine ⟨_, rfl, 5, rfl, p, _, rfl, SqL.of hp, fun q nq => ⟨Nat.zero_le _, fun c nc => ⟨_, _, rfl, ?_⟩⟩⟩
    have new : ∀ {G : Hp} {t b : Addr} {o u : HO}, G t = none → G b = some u → (upd G t o) b = some u := fun {G t b o u} n1 e => by rw [upd_ne (fun y => by rw [y, n1] at e; cases e)]; exact e
    have e5 : cutV (ys.map V.str) none (some 5) = (ys.take 5).map V.str := cut_head ys 5
    rw [e5] at nc ⊢
    have D2 := dr_new (o := .lst []) nc (dr_new (o := .lst ((ys.take 5).map V.str)) nq D1)
    have B2 : But d wp H (upd (upd H1 q (.lst ((ys.take 5).map V.str))) c (.lst [])) := But.trans B1 (But.trans (but_new nq) (but_new nc))
    have hp2 := new (o := .lst []) nc (new (o := .lst ((ys.take 5).map V.str)) nq hp)
    have hq2 : (upd (upd H1 q (.lst ((ys.take 5).map V.str))) c (.lst [])) q = some (.lst ((ys.take 5).map V.str)) := new nc upd_same
    have hc2 : (upd (upd H1 q (.lst ((ys.take 5).map V.str))) c (.lst [])) c = some (.lst []) := upd_same
    have ncH : H c = none := but_none (dr_new nq D1) (But.trans B1 (but_new nq)) nc
    have farc := dr_far D ncH
    generalize upd (upd H1 q (.lst ((ys.take 5).map V.str))) c (.lst []) = H2 at D2 B2 hp2 hq2 hc2
    refine ⟨_, rfl, 5, rfl, _, rfl, (show 6 ≤ sizeLine by decide), fun z nz => ⟨d, wp, cp, z, n + 79, _, rfl, dr_new nz D2, upd_same, ?_, by decide, by decide, fun i y H4 hy D4 B4 => ?_⟩⟩
    · intro e
      obtain ⟨ws, cs, r, t, a, _⟩ := D2
      rw [e, a.wl] at nz; cases nz
    obtain ⟨m, rfl, m1, m3⟩ : ∃ m : Nat, y = .int (m : Int) ∧ 1 ≤ m ∧ m ≤ 3 := by
      have e := List.mem_of_getElem? hy
      simp only [List.mem_cons, List.not_mem_nil, or_false] at e
      rcases e with rfl | rfl | rfl | rfl | rfl | rfl
      · exact ⟨2, rfl, by decide, by decide⟩
      · exact ⟨2, rfl, by decide, by decide⟩
      · exact ⟨2, rfl, by decide, by decide⟩
      · exact ⟨2, rfl, by decide, by decide⟩
      · exact ⟨3, rfl, by decide, by decide⟩
      · exact ⟨1, rfl, by decide, by decide⟩
    have fz : ∀ {b : Addr} {o : HO}, H2 b = some o → b ≠ d → b ≠ wp → H4 b = some o := fun {b o} e h1 h2 => B4 b o (new nz e) h1 h2
    have dOf : ∀ {b : Addr} {xs : List V}, H2 b = some (.lst xs) → b ≠ d := fun {b xs} e y => by
      obtain ⟨ws, cs, r, t, a, _⟩ := D2
      rw [y, a.dc] at e; cases e
    have nqH : H q = none := but_none D1 B1 nq
    have farq := dr_far D nqH
    have hp4 := fz hp2 farp.1 farp.2.1
    have hq4 := fz hq2 farq.1 farq.2.1
    have hc4 := fz hc2 farc.1 farc.2.1
    have B4' : But d wp H H4 := But.trans B2 (fun b o e h1 h2 => fz e h1 h2)
    refine ⟨_, _, rfl, rfl, _, rfl, p, _, rfl, SqL.of hp4, fun r nr => ?_⟩
    have em : cutV (ys.map V.str) (some 5) (some (5 + (m : Int))) = ((ys.drop 5).take m).map V.str := by
      have := cut_mid ys 5 (5 + m) (by omega) (by omega)
      rw [show (5 + m - 5) = m by omega] at this
      exact this
    rw [em]
    have lm : ((ys.drop 5).take m).length = m := by rw [List.length_take, List.length_drop]; omega
    generalize hxs : (ys.drop 5).take m = xs at lm
    have hsub : ∀ s ∈ xs, Nam s := fun s hs => hnm s (by rw [← hxs] at hs; exact List.mem_of_mem_drop (List.mem_of_mem_take hs))
    have hxnd : xs.Nodup := by
      rw [← hxs]
      exact (hnd.sublist (List.drop_sublist 5 ys)).sublist (List.take_sublist m _)
    have nrH : H r = none := but_none D4 B4' nr
    have farr := dr_far D nrH
    have hr5 : (upd H4 r (.lst (xs.map V.str))) r = some (.lst (xs.map V.str)) := upd_same
    have hp5 := new (o := .lst (xs.map V.str)) nr hp4
    have hq5 := new (o := .lst (xs.map V.str)) nr hq4
    have hc5 := new (o := .lst (xs.map V.str)) nr hc4
    have D5 := dr_new (o := .lst (xs.map V.str)) nr D4
    have B5 : But d wp H (upd H4 r (.lst (xs.map V.str))) := But.trans B4' (but_new nr)
    have ncq : c ≠ q := fun e => by rw [e, upd_same] at nc; cases nc
    have ncr : c ≠ r := fun e => by rw [← e, hc4] at nr; cases nr
    generalize upd H4 r (.lst (xs.map V.str)) = H5 at hr5 hp5 hq5 hc5 D5 B5
    refine ⟨r, rfl, ⟨_, SqL.of hr5⟩, for_list (xs := xs.map V.str) (fun i σ G => (∃ o4 o5, σ = [some (.ref d), some (.ref p), some (.ref q), some (.ref c), o4, o5]) ∧ ∃ (vs : List V) (cs : List (Str × List Str)), G c = some (.lst vs) ∧ vs.length = i ∧ cs.map (·.1) = xs.take i ∧ CallsD cs ∧
      (∀ (j : Nat) (v : V) (cc : Str × List Str), vs[j]? = some v → cs[j]? = some cc → IsTh G v (cT cc.1 cc.2)) ∧ Dr G d wp cp (n + 79 - 20 * i) ∧ (∀ b o, b ≠ d → b ≠ wp → b ≠ c → H5 b = some o → G b = some o)) ⟨⟨none, none, rfl⟩, [], [], hc5, rfl, by simp, ⟨fun c h => by simp at h, fun c h => by simp at h⟩, fun j v cc h => by simp at h, D5, fun b o _ _ _ e => e⟩
      (fun i σ G _ h => ?_) (fun i x σ G hxi h => ?_) (fun σ G h => ?_)⟩
    · obtain ⟨_, vs, cs, _, _, _, _, _, _, kG⟩ := h
      exact SqL.of (kG r _ farr.1 farr.2.1 (Ne.symm ncr) hr5)
    · obtain ⟨⟨o4, o5, rfl⟩, vs, cs, hGc, lv, ecs, cd, hth, DG, kG⟩ := h
      rw [List.getElem?_map] at hxi
      obtain ⟨x0, hx0, rfl⟩ := Option.map_eq_some_iff.mp hxi
      have hi : i < 3 := by
        have := (List.getElem?_eq_some_iff.mp hx0).1
        omega
      have hGq := kG q _ farq.1 farq.2.1 (Ne.symm ncq) hq5
      refine ⟨_, rfl, _, rfl, d, wp, cp, q, n + 79 - 20 * i - 5, ys.take 5, rfl, SqL.of hGq, by simp; omega, fun s hs => (hnm s (List.mem_of_mem_take hs)).pl, dr_le (by simp; omega) DG, fun u zs G1 pm nu hu D6 B6 => ?_⟩
      have nuwp : u ≠ wp := fun e => by
        obtain ⟨ws, cs, r, t, a, _⟩ := DG
        rw [e, a.wl] at nu; cases nu
      have lz : zs.length = 5 := by rw [pm.length_eq, List.length_take]; omega
      refine ⟨_, rfl, (show 5 ≤ sizeLine by decide), fun z2 nz2 => ⟨d, wp, cp, z2, n + 79 - 20 * i - 6, _, rfl, dr_le (by omega) (dr_new nz2 D6), upd_same, ?_, by decide, by decide, fun i' y H7 hy' D7 B7 => ?_⟩⟩
      · intro e
        obtain ⟨ws, cs, r, t, a, _⟩ := D6
        rw [e, a.wl] at nz2; cases nz2
      obtain ⟨m', rfl, m1', m3'⟩ : ∃ m : Nat, y = .int (m : Int) ∧ 1 ≤ m ∧ m ≤ 3 := by
        have e := List.mem_of_getElem? hy'
        simp only [List.mem_cons, List.not_mem_nil, or_false] at e
        rcases e with rfl | rfl | rfl | rfl | rfl
        · exact ⟨2, rfl, by decide, by decide⟩
        · exact ⟨2, rfl, by decide, by decide⟩
        · exact ⟨2, rfl, by decide, by decide⟩
        · exact ⟨3, rfl, by decide, by decide⟩
        · exact ⟨1, rfl, by decide, by decide⟩
      have hu7 := B7 u _ (new nz2 hu) (fun e => by
        obtain ⟨ws, cs, r, t, a, _⟩ := D6
        rw [e, a.dc] at hu; cases hu) (fun e => nuwp e)
      refine ⟨_, rfl, u, _, rfl, SqL.of hu7, fun u2 nu2 => ?_⟩
      rw [cut_head]
      have lt : (zs.take m').length = m' := by rw [List.length_take]; omega
      generalize hls : zs.take m' = ls at lt
      have hlN : ∀ s ∈ ls, Nam s := fun s hs => hnm s (List.mem_of_mem_take (pm.mem_iff.mp (by rw [← hls] at hs; exact List.mem_of_mem_take hs)))
      have hlD : ls.Nodup := by
        rw [← hls]
        exact (pm.nodup_iff.mpr (hnd.sublist (List.take_sublist 5 ys))).sublist (List.take_sublist m' zs)
      have k7 : ∀ b o, b ≠ d → b ≠ wp → b ≠ c → H5 b = some o → H7 b = some o := fun b o h1 h2 h3 e => B7 b o (new nz2 (B6 b o (kG b o h1 h2 h3 e) h1 h2)) h1 h2
      have kv : ∀ b o, G b = some o → b ≠ d → b ≠ wp → H7 b = some o := fun b o e h1 h2 => B7 b o (new nz2 (B6 b o e h1 h2)) h1 h2
      have hGc7 := kv c _ hGc farc.1 farc.2.1
      refine ⟨_, rfl, .inl ⟨rfl, _, SqL.of (new nu2 hGc7)⟩, _, rfl, _, rfl, u2, _, rfl, .inl ⟨SqL.of upd_same, fun tt ntt => ⟨(show 3 ≤ sizeLine by decide), fun ct nct => ?_⟩⟩⟩
      have D8 := dr_new (o := .lst (ls.map V.str)) nu2 D7
      have hc8 := new (o := .lst (ls.map V.str)) nu2 hGc7
      have k8 : ∀ b o, H7 b = some o → (upd H7 u2 (.lst (ls.map V.str))) b = some o := fun b o e => new nu2 e
      generalize upd H7 u2 (.lst (ls.map V.str)) = H8 at D8 hc8 k8 ntt nct
      have D9 := dr_new (o := .tup (ls.map V.str)) ntt D8
      have hc9 := new (o := .tup (ls.map V.str)) ntt hc8
      have ht9 : (upd H8 tt (.tup (ls.map V.str))) tt = some (.tup (ls.map V.str)) := upd_same
      have k9 : ∀ b o, H8 b = some o → (upd H8 tt (.tup (ls.map V.str))) b = some o := fun b o e => new ntt e
      generalize upd H8 tt (.tup (ls.map V.str)) = H9 at D9 hc9 ht9 k9 nct
      have D10 := dr_new (o := .tup [.str "call", .str x0, .ref tt]) nct D9
      have hc10 := new (o := .tup [.str "call", .str x0, .ref tt]) nct hc9
      have ht10 := new (o := .tup [.str "call", .str x0, .ref tt]) nct ht9
      have hct : (upd H9 ct (.tup [.str "call", .str x0, .ref tt])) ct = some (.tup [.str "call", .str x0, .ref tt]) := upd_same
      have k10 : ∀ b o, H9 b = some o → (upd H9 ct (.tup [.str "call", .str x0, .ref tt])) b = some o := fun b o e => new nct e
      generalize upd H9 ct (.tup [.str "call", .str x0, .ref tt]) = G2 at D10 hc10 ht10 hct k10
      have hx0N : Nam x0 := hsub x0 (List.mem_of_getElem? hx0)
      have hcd : c ≠ d ∧ c ≠ wp ∧ c ≠ cp := farc
      refine ⟨c, vs, _, rfl, rfl, hc10, by rw [lv, sizeLine_eq]; omega, ⟨_, _, rfl⟩, vs ++ [.ref ct], cs ++ [(x0, ls)], upd_same, by rw [List.length_append, lv]; rfl, ?_, ⟨fun cc hcc => ?_, fun cc hcc => ?_⟩, fun j v cc h1 h2 => ?_, dr_put (dr_le (by omega) D10) hcd, fun b o h1 h2 h3 e => ?_⟩
      · rw [List.map_append, ecs, List.take_add_one, hx0]; rfl
      · rcases List.mem_append.mp hcc with h' | h'
        · exact cd.nam cc h'
        · rw [List.mem_singleton.mp h']; exact hx0N
      · rcases List.mem_append.mp hcc with h' | h'
        · exact cd.ans cc h'
        · rw [List.mem_singleton.mp h']; exact ⟨by show 1 ≤ ls.length; omega, by show ls.length ≤ 3; omega, hlN, hlD⟩
      · have lc : cs.length = i := by
          have := congrArg List.length ecs
          rw [List.length_map, List.length_take] at this
          have := (List.getElem?_eq_some_iff.mp hx0).1
          omega
        have sf : Soft G2 (upd G2 c (.lst (vs ++ [.ref ct]))) := Soft.list hc10
        by_cases hj : j < vs.length
        · rw [List.getElem?_append_left hj] at h1
          rw [List.getElem?_append_left (by omega)] at h2
          exact sf.th ((soft_but DG D10 fun b o e h3 h4 => k10 b o (k9 b o (k8 b o (kv b o e h3 h4)))).th (hth j v cc h1 h2))
        · have hj' := (List.getElem?_eq_some_iff.mp h1).1
          rw [List.length_append, List.length_singleton] at hj'
          have : j = i := by omega
          subst this
          rw [List.getElem?_append_right (by omega), lv, Nat.sub_self] at h1
          rw [List.getElem?_append_right (by omega), lc, Nat.sub_self] at h2
          cases h1
          cases h2
          refine sf.th (.tup ct _ _ hct rfl (by show 3 ≤ 100000; decide) fun j' v t h3 h4 => ?_)
          match j', h3, h4 with
          | 0, h3, h4 => cases h3; cases h4; exact isTh_word (x := "call") (by decide +kernel)
          | 1, h3, h4 => cases h3; cases h4; exact isTh_str hx0N
          | 2, h3, h4 => cases h3; cases h4; exact isTh_names ht10 hlN (by show ls.length ≤ 100000; omega)
          | j' + 3, h3, h4 => simp at h3
      · rw [upd_ne h3]
        exact k10 b o (k9 b o (k8 b o (k7 b o h1 h2 h3 e)))
    · obtain ⟨⟨o4, o5, rfl⟩, vs, cs, hGc, lv, ecs, cd, hth, DG, kG⟩ := h
      rw [List.length_map] at lv ecs
      rw [List.take_length] at ecs
      have lc : cs.length = m := by
        have := congrArg List.length ecs
        rw [List.length_map] at this
        omega
      refine ⟨_, rfl, c, vs, rfl, .inl ⟨SqL.of hGc, fun tt ntt => ⟨(show 2 ≤ sizeLine by decide), fun hh nhh => ?_⟩⟩⟩
      have BG : But d wp H G := fun b o e h1 h2 => kG b o h1 h2 (fun y => by rw [y, ncH] at e; cases e) (B5 b o e h1 h2)
      have D6 := dr_new (o := .tup vs) ntt DG
      have t6 : (upd G tt (.tup vs)) tt = some (.tup vs) := upd_same
      have s6 : Soft G (upd G tt (.tup vs)) := Soft.keep fun b o e => new ntt e
      have B6 := But.trans BG (but_new (o := .tup vs) ntt)
      generalize upd G tt (.tup vs) = G6 at D6 t6 s6 B6 nhh
      have D7 := dr_new (o := .tup [.str "house", .ref tt]) nhh D6
      have t7 := new (o := .tup [.str "house", .ref tt]) nhh t6
      have s7 : Soft G6 (upd G6 hh (.tup [.str "house", .ref tt])) := Soft.keep fun b o e => new nhh e
      have B7 := But.trans B6 (but_new (o := .tup [.str "house", .ref tt]) nhh)
      have h7 : (upd G6 hh (.tup [.str "house", .ref tt])) hh = some (.tup [.str "house", .ref tt]) := upd_same
      refine k hh (hT cs) _ ?_ (houseD cd (by omega) (by omega) (by rw [ecs]; exact hxnd)) (dr_le (by rw [List.length_map]; omega) D7) B7
      refine .tup hh _ _ h7 rfl (by show 2 ≤ 100000; decide) fun j' v t h3 h4 => ?_
      match j', h3, h4 with
      | 0, h3, h4 => cases h3; cases h4; exact isTh_word (x := "house") (by decide +kernel)
      | 1, h3, h4 =>
        cases h3
        cases h4
        refine .tup tt vs _ t7 (by rw [List.length_map]; omega) (by omega) fun i v t h5 h6 => ?_
        rw [List.getElem?_map] at h6
        obtain ⟨cc, hcc, rfl⟩ := Option.map_eq_some_iff.mp h6
        exact s7.th (s6.th (hth i v cc h5 hcc))
      | j' + 2, h3, h4 => simp at h3
end
end Lh

set_option Elab.async false
set_option linter.all false
set_option maxRecDepth 100000
set_option maxHeartbeats 2000000
/-! the law's own: calls, word. -/
namespace Lp
open PySem PySem.Spec PyProof.Rows L2 Sx Rp Dw NdefX GxR Rw Th Kd Gx Nm Hs Pr Ps Lw Lh
abbrev sCalls : Stmt := topS 38
abbrev sWord : Stmt := topS 39
theorem scCl : FnScope ["house", "told"] ["house"] (defScope sCalls) := ⟨rfl, rfl, rfl, by decide +kernel, rfl, by decide +kernel, by decide +kernel⟩
theorem scWd : FnScope ["draw", "house", "most", "k"] ["draw", "house", "most"] (defScope sWord) := ⟨rfl, rfl, rfl, by decide +kernel, rfl, by decide +kernel, by decide +kernel⟩
section
variable {P : Program} {w : World} {K : PySem.W.Frag} {mg : Str → Option Value} {base : Heap} {T : List Addr}
def spCalls : Sp := fun vs H Q _ => ∃ hv h, vs = [hv] ∧ IsTh H hv h ∧ houseT h = true ∧ ∀ p H', (∀ b o, H b = some o → H' b = some o) → H p = none → H' p = some (.lst ((Pr.namesOf h).map V.str)) → Q (.ref p) H'
theorem ok_calls {f : Addr} {fd : FuncData} (F : Fun K "_law_calls" "_law_calls" sCalls f fd) : FnOk P w K mg base CX0 1 f fd ["house"] spCalls := by
  refine F.ok scCl (fun vs H Q E h => ?_) (fun cdv A outer s H vs Q E hr h => ?_)
  · obtain ⟨hv, h, rfl, _⟩ := h
    rfl
  · obtain ⟨hv, h, rfl, hh, ho, k⟩ := h
    refine ⟨_, pss_one (ps_ret (pe_lc (own := [("told", 1)]) (g := gName 1) (tt := tYes) (te := tOp (rIxT K) (tVar 1) (tC (.int 1))) (by rfl) scCl.nd (pi_tup (pe_ix ix_tup (pv 0) pe_int (fun _ _ => rfl))) (blkOk_by (own := [("told", 1)]) (N := ["house", "told"]) (sc := defScope sCalls) (by decide +kernel)) (fun _ _ _ _ _ => pg_name (i := 1) scCl.nd rfl (Or.inl rfl)) (fun _ _ _ _ _ => pts_nil) (fun _ _ _ _ _ => pe_ix ix_tup (pv 1) pe_int (fun _ _ => rfl)))), ?_⟩
    have hp := house_p ho
    obtain ⟨a, xs, x, rfl, ha, hx, h1⟩ := part1 (n := 2) hh hp.told (by decide)
    have e1 := hp.tup
    have e2 := hp.calls
    have e3 := hp.names
    have e4 := hp.len
    cases et : Hs.nth 1 h with
    | tup cs =>
      rw [et] at h1 e1 e2 e3 e4
      have en : Pr.namesOf h = strsOf (cs.map (Hs.nth 1)) := by unfold Pr.namesOf; rw [et]; rfl
      rw [en] at k
      cases h1 with
      | tup b ys _ hb l _ ey =>
        refine ⟨_, rfl, a, xs, _, _, rfl, rfl, SqT.of ha, hx, b, rfl, ⟨ys, SqT.of hb⟩, fun L nL => ?_⟩
        have bL : b ≠ L := fun y => by rw [← y, hb] at nL; cases nL
        refine lc_tup (K := K) (a := b) (xs := ys) (fun i G => G L = some (.lst ((strsOf ((cs.map (Hs.nth 1)).take i)).map V.str)) ∧ ∀ b o, H b = some o → G b = some o) ⟨upd_same, fun b o e => by rw [upd_ne (fun y => by rw [y, nL] at e; cases e)]; exact e⟩ (fun i G _ h => SqT.of (h.2 _ _ hb)) (fun i x G hxi h => ?_) (fun G h => ?_)
        · obtain ⟨hL, kG⟩ := h
          have hi : i < cs.length := by rw [← l]; exact (List.getElem?_eq_some_iff.mp hxi).1
          obtain ⟨c', hc⟩ : ∃ c', cs[i]? = some c' := ⟨cs[i], List.getElem?_eq_getElem hi⟩
          have hth := (Soft.keep kG).th (ey i x c' hxi hc)
          have hcall := List.all_eq_true.mp e2 c' (List.mem_of_getElem? hc)
          have hcall2 := hcall
          unfold callT at hcall2
          simp only [Bool.and_eq_true] at hcall2
          obtain ⟨a2, xs2, x2, rfl, ha2, hx2, h2'⟩ := part1 (n := 3) hth hcall2.1 (by decide)
          obtain ⟨z, ez⟩ := name_str hcall2.2.1
          rw [ez] at h2'
          cases h2' with
          | str _ hz =>
            refine ⟨rfl, _, rfl, a2, xs2, _, _, rfl, rfl, SqT.of ha2, hx2, _, hL, ?_, ?_, fun b o e => ?_⟩
            · rw [List.length_map]
              unfold strsOf
              rw [List.length_map, List.length_take, sizeLine_eq]
              have e4' : cs.length ≤ 5 := e4
              omega
            · rw [upd_same]
              congr 2
              rw [List.take_add_one]
              have e9 : (cs.map (Hs.nth 1))[i]? = some (Th.str z) := by rw [List.getElem?_map, hc]; show some (Hs.nth 1 c') = _; rw [ez]
              rw [e9]
              unfold strsOf
              rw [List.map_append, List.map_append]; rfl
            · rw [upd_ne (fun y => by rw [y, nL] at e; cases e)]; exact kG b o e
        · obtain ⟨hL, kG⟩ := h
          rw [l, show cs.length = (cs.map (Hs.nth 1)).length by rw [List.length_map], List.take_length] at hL
          exact k L G kG nL hL
    | _ => rw [et] at e1; cases e1
def spWordD : Sp := fun vs H Q _ => ∃ (d wp cp : Addr) (n m : Nat) (hv : V) (h : Th), vs = [.ref d, hv, .int (m : Int)] ∧ m ≤ 1000 ∧ IsTh H hv h ∧ houseT h = true ∧ 1 ≤ (Pr.namesOf h).length ∧ Dr H d wp cp (n + (m + 1)) ∧
  ∀ (p : Addr) (ws : List Str) (H' : Hp), ws.length ≤ m → (∀ s ∈ ws, s ∈ Pr.namesOf h) → H' p = some (.tup (ws.map V.str)) → Dr H' d wp cp n → But d wp H H' → Q (.ref p) H'
theorem ok_wordD {f ft fp fc : Addr} {fd td pd cd : FuncData} (F : Fun K "_law_word" "_law_word" sWord f fd) (mr : mg "range" = none) (mtu : mg "tuple" = none)
    (Ft : FnOk P w K mg base CX0 2 ft td ["draw", "many"] spTake) (mt : mg "_law_take" = some (.ref ft)) (kt : PySem.W.keepIn K (.ref ft) = true) (bt : Binds K td ["draw", "many"] [])
    (Fp : FnOk P w K mg base CX0 3 fp pd ["draw", "some"] spPick) (mp : mg "_law_pick" = some (.ref fp)) (kp : PySem.W.keepIn K (.ref fp) = true) (bp : Binds K pd ["draw", "some"] [])
    (Fc : FnOk P w K mg base CX0 1 fc cd ["house"] spCalls) (mc : mg "_law_calls" = some (.ref fc)) (kc : PySem.W.keepIn K (.ref fc) = true) (bc : Binds K cd ["house"] []) : FnOk P w K mg base CX0 4 f fd ["draw", "house", "most"] spWordD := by
  refine F.ok scWd (fun vs H Q E h => ?_) (fun cdv A outer s H vs Q E hr h => ?_)
  · obtain ⟨d, wp, cp, n, m, hv, h, rfl, _⟩ := h
    rfl
  · obtain ⟨d, wp, cp, n, m, hv, h, rfl, hm, hh, ho, h1, D, k⟩ := h
    refine ⟨_, pss_one (ps_ret (pe_callTy call_tuple_of (by rfl) mtu (by decide +kernel) (pa_cons (pe_lc (own := [("k", 3)]) (g := gName 3) (tt := tYes) (te := tCall spPick [] E0 (tCons (tVar 0) (tCons (tCall spCalls [] E0 (tCons (tVar 1) tNil)) tNil))) (by rfl) scWd.nd
      (pi_range1 (by rfl) mr (pa_cons (pe_call Ft (hr.mono (by decide)) rfl mt kt bt .nil pass0 (pa_cons (pv 0) (pa_cons (pe_op op_add (pv 2) pe_int) pa_nil))) pa_nil)) (blkOk_by (own := [("k", 3)]) (N := ["draw", "house", "most", "k"]) (sc := defScope sWord) (by decide +kernel)) (fun _ _ _ _ _ => pg_name (i := 3) scWd.nd rfl (Or.inl rfl)) (fun _ _ _ _ _ => pts_nil)
      (fun _ _ _ _ _ => pe_call Fp hr rfl mp kp bp .nil pass0 (pa_cons (pv 0) (pa_cons (pe_call Fc (hr.mono (by decide)) rfl mc kc bc .nil pass0 (pa_cons (pv 1) pa_nil)) pa_nil)))) pa_nil))), ?_⟩
    refine ⟨_, rfl, _, rfl, _, _, rfl, rfl, d, wp, cp, n + m, ((m : Int) + 1), rfl, dr_le (by omega) D, by omega, by omega, fun v H1 v0 v1 D1 B1 => ?_⟩
    obtain ⟨j, rfl⟩ := Int.eq_ofNat_of_zero_le v0
    refine ⟨(j : Int), rfl, by omega, by omega, fun L nL => ?_⟩
    have far := dr_far D1 nL
    have s1 := soft_but D D1 B1
    have len5 := (house_p ho).len
    have lnm : (Pr.namesOf h).length ≤ 5 := by unfold Pr.namesOf strsOf; rw [List.length_map, List.length_map]; exact len5
    refine lc_range (lo := 0) (n := j) (fun i G => ∃ ws : List Str, G L = some (.lst (ws.map V.str)) ∧ ws.length = i ∧ (∀ s ∈ ws, s ∈ Pr.namesOf h) ∧ Dr G d wp cp (n + m - i) ∧ But d wp H1 G ∧ IsTh G hv h) ⟨[], upd_same, rfl, (fun s h => by simp at h), dr_put D1 far, but_new nL, (Soft.keep fun b o e => by rw [upd_ne (fun y => by rw [y, nL] at e; cases e)]; exact e).th (s1.th hh)⟩ (fun i G hi hx => ?_) (fun G hx => ?_)
    · obtain ⟨ws, hL, lw, hws, DG, BG, hG⟩ := hx
      refine ⟨rfl, _, rfl, _, rfl, hv, h, rfl, hG, ho, fun p G2 k2 np hp => ?_⟩
      have D2 : Dr G2 d wp cp ((n + m - (i + 1)) + 1) := dr_le (by omega) (dr_same k2 DG)
      have hL2 := k2 _ _ hL
      refine ⟨d, wp, cp, p, n + m - (i + 1), _, rfl, D2, hp, ?_, by rw [List.length_map]; omega, by rw [List.length_map]; omega, fun i' y H4 hy D4 B4 => ?_⟩
      · intro e
        obtain ⟨ws, cs, r, t, a, _⟩ := DG
        rw [e, a.wl] at np; cases np
      rw [List.getElem?_map] at hy
      obtain ⟨x, hx', rfl⟩ := Option.map_eq_some_iff.mp hy
      have hL4 := B4 L _ hL2 far.1 far.2.1
      refine ⟨_, hL4, by rw [List.length_map, lw, sizeLine_eq]; omega, ws ++ [x], ?_, by rw [List.length_append, lw]; rfl, fun s hs => ?_, dr_put D4 far, fun b o e h2 h3 => ?_, ?_⟩
      · rw [upd_same, List.map_append]; rfl
      · rcases List.mem_append.mp hs with h' | h'
        · exact hws s h'
        · rw [List.mem_singleton.mp h']; exact List.mem_of_getElem? hx'
      · rw [upd_ne (fun y => by rw [y, nL] at e; cases e)]
        exact B4 b o (k2 b o (BG b o e h2 h3)) h2 h3
      · exact (Soft.list hL4).th ((soft_but D2 D4 B4).th ((Soft.keep k2).th hG))
    · obtain ⟨ws, hL, lw, hws, DG, BG, hG⟩ := hx
      refine ⟨L, _, rfl, .inl ⟨SqL.of hL, fun p np => ?_⟩⟩
      exact k p ws _ (by omega) hws upd_same (dr_le (by omega) (dr_new np DG)) (But.trans B1 (But.trans BG (but_new np)))
end
end Lp

set_option Elab.async false
set_option linter.all false
set_option maxRecDepth 100000
set_option maxHeartbeats 2000000
/-! the law's own: program. -/
namespace Lq
open PySem PySem.Spec PyProof.Rows L2 Sx Rp Dw NdefX GxR Rw Th Kd Gx Nm Hs Pr Ps Lw Lh Lp
abbrev sProg : Stmt := topS 40
def enT (e : Str × Nat) : Th := .tup [sT e.1, .int (e.2 : Int)]
def rowTh (r : List (Str × Nat)) : Th := .tup (r.map enT)
def pT (h : Th) (rows : List (List (Str × Nat))) : Th := .tup [sT "program", h, .tup (rows.map rowTh)]
structure RowD (nss : List (List Str)) (m : Nat) (r : List (Str × Nat)) : Prop where
  len : r.length = nss.length
  en : ∀ (i : Nat) (e : Str × Nat) (ns : List Str), r[i]? = some e → nss[i]? = some ns → e.1 ∈ ns ∧ e.2 < m
theorem amongT_sT {s : Str} {ns : List Str} (h : s ∈ ns) : amongT (sT s) (ns.map V.str) = true := by
  show inV (.str ⟨s.cps.toList.toArray⟩) (ns.map V.str) = true
  rw [sT_arr]
  exact List.any_eq_true.mpr ⟨.str s, List.mem_map.mpr ⟨s, h, rfl⟩, by show (s == s) = true; simp⟩
theorem rowT_D {nss : List (List Str)} {m : Nat} {r : List (Str × Nat)} (h : RowD nss m r) : rowT nss (m : Int) (rowTh r) = true := by
  unfold rowT
  have a : tupOf (rowTh r) (nss.length : Int) = true := by
    show decide (((r.map enT).length : Int) = (nss.length : Int)) = true
    rw [List.length_map, h.len]; simp
  rw [a, Bool.true_and]
  refine List.all_eq_true.mpr fun p hp => ?_
  obtain ⟨i, hi, e⟩ := List.getElem_of_mem hp
  have hz : (nss.zip (items (rowTh r)))[i]? = some p := by rw [← e]; exact List.getElem?_eq_getElem hi
  rw [List.getElem?_zip_eq_some] at hz
  obtain ⟨h1, h2⟩ := hz
  have h2' : (r.map enT)[i]? = some p.2 := h2
  rw [List.getElem?_map] at h2'
  obtain ⟨en, hen, e2⟩ := Option.map_eq_some_iff.mp h2'
  obtain ⟨q1, q2⟩ := h.en i en p.1 hen h1
  rw [← e2]
  unfold entryT
  have b : amongT (Hs.nth 0 (enT en)) (p.1.map V.str) = true := amongT_sT q1
  have c : idxT (Hs.nth 1 (enT en)) (m : Int) = true := by
    show (decide ((0 : Int) ≤ (en.2 : Int)) && decide ((en.2 : Int) < (m : Int))) = true
    rw [decide_eq_true (by omega), decide_eq_true (by omega)]; rfl
  rw [b, c]; rfl
structure ProgD (h : Th) (rows : List (List (Str × Nat))) : Prop where
  house : HouseD h
  one : 1 ≤ rows.length
  rows : ∀ r ∈ rows, RowD (ansOf h) rows.length r
theorem progT_D {h : Th} {rows : List (List (Str × Nat))} (D : ProgD h rows) : progT (pT h rows) = true := by
  unfold progT
  have a : toldT (pT h rows) "program" 3 = true := by
    show (decide (((2 + 1 : Nat) : Int) = 3) && decide ((⟨(Str.ofString "program").cps.toList.toArray⟩ : Str) = "program")) = true
    decide +kernel
  have b : houseT (Hs.nth 1 (pT h rows)) = true := D.house.ok
  have c : (Hs.nth 2 (pT h rows)).isTup = true := rfl
  have d : (items (Hs.nth 2 (pT h rows))).isEmpty = false := by
    show (rows.map rowTh).isEmpty = false
    cases hr : rows with
    | nil => have := D.one; rw [hr] at this; simp at this
    | cons x r => rfl
  have e : (items (Hs.nth 2 (pT h rows))).all (rowT (ansOf (Hs.nth 1 (pT h rows))) ((items (Hs.nth 2 (pT h rows))).length : Int)) = true := by
    show (rows.map rowTh).all (rowT (ansOf h) ((rows.map rowTh).length : Int)) = true
    rw [List.length_map]
    refine List.all_eq_true.mpr fun t ht => ?_
    obtain ⟨r, hr, rfl⟩ := List.mem_map.mp ht
    exact rowT_D (D.rows r hr)
  rw [a, b, c, d, e]; rfl
theorem scPg : FnScope ["draw", "house", "most", "many", "rows", "state", "told"] ["draw", "house", "most"] (defScope sProg) := ⟨rfl, rfl, rfl, by decide +kernel, rfl, by decide +kernel, by decide +kernel⟩
def scRows : Scope := match (defBody sProg).getD 1 (.Pass ⟨0, 0, 0, 0⟩) with | .Assign _ (.ListComp _ _ sc _) _ => sc | _ => defScope sProg
def rListOf (K : PySem.W.Frag) : List V → Hp → VK → Prop := fun xs H Q => ∃ p ys, xs = [.ref p] ∧ (SqL K H p ys ∨ SqT K H p ys) ∧ ∀ l, H l = none → Q (.ref l) (upd H l (.lst ys))
def rTupOf (K : PySem.W.Frag) : List V → Hp → VK → Prop := fun xs H Q => ∃ p ys, xs = [.ref p] ∧ ((SqL K H p ys ∧ ∀ l, H l = none → Q (.ref l) (upd H l (.tup ys))) ∨ (SqT K H p ys ∧ Q (.ref p) H))
def tEnt (K : PySem.W.Frag) : TE := tTup (tCons (tCall spPick [] E0 (tCons (tVar 0) (tCons (tCB (rListOf K) (tCons (tOp (rIxT K) (tVar 6) (tC (.int 2))) tNil)) tNil))) (tCons (tCall spTake [] E0 (tCons (tVar 0) (tCons (tVar 3) tNil))) tNil))
def tRow (K : PySem.W.Frag) : TE := tCB (rTupOf K) (tCons (tLc (iTup K (tOp (rIxT K) (tVar 1) (tC (.int 1)))) (gName 6) tYes (tEnt K) [6]) tNil)
section
variable {P : Program} {w : World} {K : PySem.W.Frag} {mg : Str → Option Value} {base : Heap} {T : List Addr}
def spProgD : Sp := fun vs H Q _ => ∃ (d wp cp : Addr) (n m : Nat) (hv : V) (h : Th), vs = [.ref d, hv, .int (m : Int)] ∧ 1 ≤ m ∧ m ≤ 1000 ∧ IsTh H hv h ∧ HouseD h ∧ Dr H d wp cp (n + (10 * m + 1)) ∧
  ∀ (p : Addr) (rows : List (List (Str × Nat))) (H' : Hp), ProgD h rows → rows.length ≤ m → IsTh H' (.ref p) (pT h rows) → Dr H' d wp cp n → But d wp H H' → Q (.ref p) H'
theorem ok_progD {f ft fp : Addr} {fd td pd : FuncData} (F : Fun K "_law_program" "_law_program" sProg f fd) (mr : mg "range" = none) (mtu : mg "tuple" = none) (mli : mg "list" = none)
    (Ft : FnOk P w K mg base CX0 2 ft td ["draw", "many"] spTake) (mt : mg "_law_take" = some (.ref ft)) (kt : PySem.W.keepIn K (.ref ft) = true) (bt : Binds K td ["draw", "many"] [])
    (Fp : FnOk P w K mg base CX0 3 fp pd ["draw", "some"] spPick) (mp : mg "_law_pick" = some (.ref fp)) (kp : PySem.W.keepIn K (.ref fp) = true) (bp : Binds K pd ["draw", "some"] []) : FnOk P w K mg base CX0 4 f fd ["draw", "house", "most"] spProgD := by
  refine F.ok scPg (fun vs H Q E h => ?_) (fun cdv A outer s H vs Q E hr h => ?_)
  · obtain ⟨d, wp, cp, n, m, hv, h, rfl, _⟩ := h
    rfl
  · obtain ⟨d, wp, cp, n, m, hv, h, rfl, m1, hm, hh, HD, D, k⟩ := h
    refine ⟨_, pss_cons (ps_set (i := 3) scPg.nd rfl (Or.inr rfl) (pe_op op_add pe_int (pe_call Ft (hr.mono (by decide)) rfl mt kt bt .nil pass0 (pa_cons (pv 0) (pa_cons (pv 2) pa_nil)))))
      (pss_cons (ps_setLc (i := 4) (own := [("state", 5)]) (g := gName 5) (tt := tYes) (te := tRow K) (by rfl) scPg.nd rfl rfl (sw_true rfl rfl rfl (by decide +kernel)) (pi_range1 (by rfl) mr (pa_cons (pv 3) pa_nil)) (blkOk_by (own := [("state", 5)]) (N := ["draw", "house", "most", "many", "rows", "state", "told"]) (sc := defScope sProg) (by decide +kernel))
        (fun _ _ _ _ _ => pg_name (i := 5) scPg.nd rfl (Or.inl rfl)) (fun _ _ _ _ _ => pts_nil)
        (fun _ _ _ _ _ => pe_callTy call_tuple_of (by rfl) mtu (by decide +kernel) (pa_cons (pe_lc (own := [("told", 6)]) (g := gName 6) (tt := tYes) (te := tEnt K) (by rfl) scPg.nd (pi_tup (pe_ix ix_tup (pv 1) pe_int (fun _ _ => rfl))) (blkOk_by (own := [("told", 6)]) (N := ["draw", "house", "most", "many", "rows", "state", "told"]) (sc := relS scRows (defScope sProg)) (by decide +kernel))
          (fun _ _ _ _ _ => pg_name (i := 6) scPg.nd rfl (Or.inl rfl)) (fun _ _ _ _ _ => pts_nil)
          (fun _ _ _ _ _ => pe_tup (pa_cons (pe_call Fp hr rfl mp kp bp .nil pass0 (pa_cons (pv 0) (pa_cons (pe_callTy call_list_of (by rfl) mli (by decide +kernel) (pa_cons (pe_ix ix_tup (pv 6) pe_int (fun _ _ => rfl)) pa_nil)) pa_nil))) (pa_cons (pe_call Ft (hr.mono (by decide)) rfl mt kt bt .nil pass0 (pa_cons (pv 0) (pa_cons (pv 3) pa_nil))) pa_nil)))) pa_nil)))
      (pss_one (ps_ret (pe_tup (pa_cons pe_str (pa_cons (pv 1) (pa_cons (pe_callTy call_tuple_of (by rfl) mtu (by decide +kernel) (pa_cons (pv 4) pa_nil)) pa_nil))))))), ?_⟩
    have hp := house_p HD.ok
    have new : ∀ {G : Hp} {t b : Addr} {o u : HO}, G t = none → G b = some u → (upd G t o) b = some u := fun {G t b o u} n1 e => by rw [upd_ne (fun y => by rw [y, n1] at e; cases e)]; exact e
    refine ⟨_, rfl, _, rfl, d, wp, cp, n + 10 * m, (m : Int), rfl, D, by omega, by omega, fun v H1 v0 v1 D1 B1 => ⟨_, _, rfl, rfl, ?_⟩⟩
    obtain ⟨j, rfl⟩ := Int.eq_ofNat_of_zero_le v0
    have eM : (1 : Int) + (j : Int) = ((j + 1 : Nat) : Int) := by omega
    show gName 3 (V.int (1 + (j : Int))) _ _ _
    rw [eM]
    have hM0 : 1 ≤ j + 1 := by omega
    have hM : j + 1 ≤ m := by omega
    generalize j + 1 = M at hM hM0
    have s1 := soft_but D D1 B1
    have h1 := s1.th hh
    refine ⟨_, rfl, (M : Int), rfl, by omega, by omega, fun L nL => ?_⟩
    have farL := dr_far D1 nL
    refine lc_range (lo := 0) (n := M) (fun i G => ∃ (rows : List (List (Str × Nat))) (vs : List V), G L = some (.lst vs) ∧ vs.length = i ∧ rows.length = i ∧ (∀ r ∈ rows, RowD (ansOf h) M r) ∧ (∀ (j : Nat) (v : V) (r : List (Str × Nat)), vs[j]? = some v → rows[j]? = some r → IsTh G v (rowTh r)) ∧ Dr G d wp cp (n + 10 * (m - i)) ∧ But d wp H1 G ∧ IsTh G hv h)
      ⟨[], [], upd_same, rfl, rfl, (fun r h => by simp at h), (fun j v r h => by simp at h), dr_put (dr_le (by omega) D1) farL, but_new nL, (Soft.keep fun b o e => new nL e).th h1⟩ (fun i G hi hx => ?_) (fun G hx => ?_)
    · obtain ⟨rows, vs, hL, lv, lr, hrows, hth, DG, BG, hG⟩ := hx
      obtain ⟨a, xs, x, rfl, ha, hx1, hc1⟩ := part1 (n := 2) hG hp.told (by decide)
      have e1 := hp.tup
      have e2 := hp.calls
      have e4 := hp.len
      have e5 := HD.ans
      cases et : Hs.nth 1 h with
      | tup cs =>
        rw [et] at hc1 e1 e2 e4
        have ea : ansOf h = cs.map fun c => strsOf (items (Hs.nth 2 c)) := by unfold ansOf; rw [et]; rfl
        cases hc1 with
        | tup b ys _ hb lb _ ey =>
          refine ⟨rfl, _, rfl, a, xs, _, _, rfl, rfl, SqT.of ha, hx1, b, rfl, ⟨ys, SqT.of hb⟩, fun L2 nL2 => ?_⟩
          have far2 := dr_far DG nL2
          have bL2 : b ≠ L2 := fun y => by rw [y, nL2] at hb; cases hb
          have LL2 : L ≠ L2 := fun y => by rw [y, nL2] at hL; cases hL
          refine lc_tup (K := K) (a := b) (xs := ys) (fun i2 G2 => ∃ (r : List (Str × Nat)) (vs2 : List V), G2 L2 = some (.lst vs2) ∧ vs2.length = i2 ∧ r.length = i2 ∧ (∀ (i : Nat) (e : Str × Nat) (ns : List Str), r[i]? = some e → (ansOf h)[i]? = some ns → e.1 ∈ ns ∧ e.2 < M) ∧ (∀ (j : Nat) (v : V) (e : Str × Nat), vs2[j]? = some v → r[j]? = some e → IsTh G2 v (enT e)) ∧ Dr G2 d wp cp (n + 10 * (m - i) - 2 * i2) ∧ But d wp G G2)
            ⟨[], [], upd_same, rfl, rfl, (fun i e ns h => by simp at h), (fun j v e h => by simp at h), dr_put DG far2, but_new nL2⟩ (fun i2 G2 _ h2 => ?_) (fun i2 x2 G2 hx2 h2 => ?_) (fun G2 h2 => ?_)
          · obtain ⟨_, _, _, _, _, _, _, _, B2⟩ := h2
            refine SqT.of (B2 b _ hb (fun y => ?_) (fun y => ?_))
            · obtain ⟨ws, cs, r, t, a, _⟩ := DG
              rw [y, a.dc] at hb; cases hb
            · obtain ⟨ws, cs, r, t, a, _⟩ := DG
              rw [y, a.wl] at hb; cases hb
          · obtain ⟨r, vs2, hL2, lv2, lr2, hr2, hth2, D2, B2⟩ := h2
            have hi2 : i2 < cs.length := by rw [← lb]; exact (List.getElem?_eq_some_iff.mp hx2).1
            have e4' : cs.length ≤ 5 := e4
            obtain ⟨c', hc⟩ : ∃ c', cs[i2]? = some c' := ⟨cs[i2], List.getElem?_eq_getElem hi2⟩
            have s2 := soft_but DG D2 B2
            have hcth := s2.th (ey i2 x2 c' hx2 hc)
            have hcall := List.all_eq_true.mp e2 c' (List.mem_of_getElem? hc)
            unfold callT at hcall
            simp only [Bool.and_eq_true] at hcall
            obtain ⟨a2, xs2, x3, rfl, ha2, hx3, h3⟩ := part2 (n := 3) hcth hcall.1 (by decide)
            cases e8 : Hs.nth 2 c' with
            | tup us =>
              rw [e8] at h3 hcall
              obtain ⟨an, rfl⟩ : ∃ an, x3 = V.ref an := by cases h3; exact ⟨_, rfl⟩
              have han := names_at h3 (names_all hcall.2.2)
              have hns : (ansOf h)[i2]? = some (strsOf us) := by rw [ea, List.getElem?_map, hc]; show some (strsOf (items (Hs.nth 2 c'))) = _; rw [e8]; rfl
              obtain ⟨q1, q2, q3⟩ := e5 _ (List.mem_of_getElem? hns)
              refine ⟨rfl, _, rfl, _, rfl, a2, xs2, _, _, rfl, rfl, SqT.of ha2, hx3, an, _, rfl, .inr (SqT.of han), fun l nl => ?_⟩
              have hL2' := new (o := .lst ((strsOf us).map V.str)) nl hL2
              refine ⟨d, wp, cp, l, n + 10 * (m - i) - 2 * i2 - 1, _, rfl, dr_le (by omega) (dr_new nl D2), upd_same, ?_, by rw [List.length_map]; omega, by rw [List.length_map]; omega, fun i3 y H4 hy D4 B4 => ?_⟩
              · intro e
                obtain ⟨ws, cs, r, t, a, _⟩ := D2
                rw [e, a.wl] at nl; cases nl
              rw [List.getElem?_map] at hy
              obtain ⟨s0, hs0, rfl⟩ := Option.map_eq_some_iff.mp hy
              refine ⟨_, rfl, _, rfl, d, wp, cp, n + 10 * (m - i) - 2 * i2 - 2, (M : Int), rfl, dr_le (by omega) D4, by omega, by omega, fun u H5 u0 u1 D5 B5 => ⟨(show 2 ≤ sizeLine by decide), fun t nt => ?_⟩⟩
              obtain ⟨q, rfl⟩ := Int.eq_ofNat_of_zero_le u0
              have k5 : ∀ b o, b ≠ d → b ≠ wp → G2 b = some o → H5 b = some o := fun b o h6 h7 e => B5 b o (B4 b o (new nl e) h6 h7) h6 h7
              have hL5 := k5 L2 _ far2.1 far2.2.1 hL2
              have D6 := dr_new (o := .tup [.str s0, .int (q : Int)]) nt D5
              have hL6 := new (o := .tup [.str s0, .int (q : Int)]) nt hL5
              have ht6 : (upd H5 t (.tup [.str s0, .int (q : Int)])) t = some (.tup [.str s0, .int (q : Int)]) := upd_same
              have k6 : ∀ b o, b ≠ d → b ≠ wp → G2 b = some o → (upd H5 t (.tup [.str s0, .int (q : Int)])) b = some o := fun b o h6 h7 e => new nt (k5 b o h6 h7 e)
              generalize upd H5 t (.tup [.str s0, .int (q : Int)]) = H6 at D6 hL6 ht6 k6
              have sN : Nam s0 := q3 s0 (List.mem_of_getElem? hs0)
              have s6 : Soft G2 H6 := soft_but D2 D6 fun b o e h6 h7 => k6 b o h6 h7 e
              have s7 : Soft H6 (upd H6 L2 (.lst (vs2 ++ [.ref t]))) := Soft.list hL6
              refine ⟨vs2, hL6, by rw [lv2, sizeLine_eq]; omega, r ++ [(s0, q)], vs2 ++ [.ref t], upd_same, by rw [List.length_append, lv2]; rfl, by rw [List.length_append, lr2]; rfl, fun i' e ns h8 h9 => ?_, fun j' v e h8 h9 => ?_, dr_put (dr_le (by omega) D6) far2, fun b o e h8 h9 => ?_⟩
              · by_cases hlt : i' < r.length
                · rw [List.getElem?_append_left hlt] at h8
                  exact hr2 i' e ns h8 h9
                · have hj' := (List.getElem?_eq_some_iff.mp h8).1
                  rw [List.length_append, List.length_singleton] at hj'
                  have : i' = i2 := by omega
                  subst this
                  rw [List.getElem?_append_right (by omega), lr2, Nat.sub_self] at h8
                  cases h8
                  rw [hns] at h9
                  cases h9
                  exact ⟨List.mem_of_getElem? hs0, by show q < M; omega⟩
              · by_cases hlt : j' < vs2.length
                · rw [List.getElem?_append_left hlt] at h8
                  rw [List.getElem?_append_left (by omega)] at h9
                  exact s7.th (s6.th (hth2 j' v e h8 h9))
                · have hj' := (List.getElem?_eq_some_iff.mp h8).1
                  rw [List.length_append, List.length_singleton] at hj'
                  have : j' = i2 := by omega
                  subst this
                  rw [List.getElem?_append_right (by omega), lv2, Nat.sub_self] at h8
                  rw [List.getElem?_append_right (by omega), lr2, Nat.sub_self] at h9
                  cases h8
                  cases h9
                  refine s7.th (.tup t _ _ ht6 rfl (by show 2 ≤ 100000; decide) fun j'' v t' h10 h11 => ?_)
                  match j'', h10, h11 with
                  | 0, h10, h11 => cases h10; cases h11; exact isTh_str sN
                  | 1, h10, h11 => cases h10; cases h11; exact .int _
                  | j'' + 2, h10, h11 => simp at h10
              · rw [upd_ne (fun y => by rw [y, nL2] at e; cases e)]
                exact k6 b o h8 h9 (B2 b o e h8 h9)
            | _ => rw [e8] at hcall; cases hcall.2.2
          · obtain ⟨r, vs2, hL2, lv2, lr2, hr2, hth2, D2, B2⟩ := h2
            have e4' : cs.length ≤ 5 := e4
            refine ⟨L2, _, rfl, .inl ⟨SqL.of hL2, fun tt ntt => ?_⟩⟩
            have hLd : L ≠ d ∧ L ≠ wp := ⟨farL.1, farL.2.1⟩
            have hL3 := new (o := .tup vs2) ntt (B2 L _ hL hLd.1 hLd.2)
            have D3 := dr_new (o := .tup vs2) ntt D2
            have t3 : (upd G2 tt (.tup vs2)) tt = some (.tup vs2) := upd_same
            have k3 : ∀ b o, G2 b = some o → (upd G2 tt (.tup vs2)) b = some o := fun b o e => new ntt e
            generalize upd G2 tt (.tup vs2) = G3 at hL3 D3 t3 k3
            have s3 : Soft G G3 := soft_but DG D3 fun b o e h6 h7 => k3 b o (B2 b o e h6 h7)
            have s4 : Soft G3 (upd G3 L (.lst (vs ++ [.ref tt]))) := Soft.list hL3
            refine ⟨vs, hL3, by rw [lv, sizeLine_eq]; omega, rows ++ [r], vs ++ [.ref tt], upd_same, by rw [List.length_append, lv]; rfl, by rw [List.length_append, lr]; rfl, fun r' hr' => ?_, fun j' v r' h8 h9 => ?_, dr_put (dr_le (by omega) D3) farL, fun b o e h8 h9 => ?_, s4.th (s3.th hG)⟩
            · rcases List.mem_append.mp hr' with h' | h'
              · exact hrows r' h'
              · rw [List.mem_singleton.mp h']
                exact ⟨by rw [lr2, lb, ea, List.length_map], hr2⟩
            · by_cases hlt : j' < vs.length
              · rw [List.getElem?_append_left hlt] at h8
                rw [List.getElem?_append_left (by omega)] at h9
                exact s4.th (s3.th (hth j' v r' h8 h9))
              · have hj' := (List.getElem?_eq_some_iff.mp h8).1
                rw [List.length_append, List.length_singleton] at hj'
                have : j' = i := by omega
                subst this
                rw [List.getElem?_append_right (by omega), lv, Nat.sub_self] at h8
                rw [List.getElem?_append_right (by omega), lr, Nat.sub_self] at h9
                cases h8
                cases h9
                refine s4.th (.tup tt vs2 _ t3 (by rw [List.length_map]; omega) (by omega) fun j'' v t' h10 h11 => ?_)
                rw [List.getElem?_map] at h11
                obtain ⟨e, he, rfl⟩ := Option.map_eq_some_iff.mp h11
                exact (Soft.keep k3).th (hth2 j'' v e h10 he)
            · rw [upd_ne (fun y => by rw [y, nL] at e; cases e)]
              exact k3 b o (B2 b o (BG b o e h8 h9) h8 h9)
      | _ => rw [et] at e1; cases e1
    · obtain ⟨rows, vs, hL, lv, lr, hrows, hth, DG, BG, hG⟩ := hx
      refine ⟨_, rfl, _, rfl, L, _, rfl, .inl ⟨SqL.of hL, fun tt ntt => ⟨(show 3 ≤ sizeLine by decide), fun p np => ?_⟩⟩⟩
      have t3 : (upd G tt (.tup vs)) tt = some (.tup vs) := upd_same
      have s3 : Soft G (upd G tt (.tup vs)) := Soft.keep fun b o e => new ntt e
      have D3 := dr_new (o := .tup vs) ntt DG
      have B3 := But.trans BG (but_new (o := .tup vs) ntt)
      generalize upd G tt (.tup vs) = G3 at t3 s3 D3 B3 np
      have p4 : (upd G3 p (.tup [.str "program", hv, .ref tt])) p = some (.tup [.str "program", hv, .ref tt]) := upd_same
      have s4 : Soft G3 (upd G3 p (.tup [.str "program", hv, .ref tt])) := Soft.keep fun b o e => new np e
      have D4 := dr_new (o := .tup [.str "program", hv, .ref tt]) np D3
      have B4 := But.trans B3 (but_new (o := .tup [.str "program", hv, .ref tt]) np)
      have t4 := new (o := .tup [.str "program", hv, .ref tt]) np t3
      refine k p rows _ ⟨HD, by omega, fun r hr => by rw [lr]; exact hrows r hr⟩ (by omega) ?_ (dr_le (by omega) D4) (But.trans B1 B4)
      refine .tup p _ _ p4 rfl (by show 3 ≤ 100000; decide) fun j' v t h3 h4 => ?_
      match j', h3, h4 with
      | 0, h3, h4 => cases h3; cases h4; exact isTh_word (x := "program") (by decide +kernel)
      | 1, h3, h4 => cases h3; cases h4; exact s4.th (s3.th hG)
      | 2, h3, h4 =>
        cases h3
        cases h4
        refine .tup tt vs _ t4 (by rw [List.length_map]; omega) (by omega) fun i v t h5 h6 => ?_
        rw [List.getElem?_map] at h6
        obtain ⟨r, hr, rfl⟩ := Option.map_eq_some_iff.mp h6
        exact s4.th (s3.th (hth i v r h5 hr))
      | j' + 3, h3, h4 => simp at h3
end
end Lq

set_option Elab.async false
set_option linter.all false
set_option maxRecDepth 100000
set_option maxHeartbeats 2000000
/-! enumerate(tuple); zip(tuple, list). -/
namespace Ez
open PySem PySem.Spec PyProof.Rows L2 Gx
set_option maxHeartbeats 4000000 in
theorem meets_enumerate_newB {v : Value} {o : Obj} {Hv : Heap → Prop} (B : Begins v o Hv) :
    Meets (Builtin.«enumerate.__new__» ⟨[.type "enumerate", v], []⟩) (fun _ R s => Hv s.heap ∧
      R (.ok (.ret (.ref (s.heap.push o).objs.size)))
        { s with heap := (s.heap.push o).push { cls := .type "enumerate", data := .fields #[.none, .bool false, .ref s.heap.objs.size, rawInt 0, .none, .none] } }) :=
  .of_wp fun prog w A R s h => by
    obtain ⟨hp, g, d, tk, os⟩ := s
    obtain ⟨hl, h⟩ := h
    have hsub := sub_enumerate
    have q1 : ∀ {A' : Around} {E : Value → Shared → Prop} {Q : Value → Shared → Prop}, Q (.ref hp.objs.size) ⟨(hp.push o), g, d, tk, os⟩ → wpAny (model prog w) A' (pyIter v) Q E ⟨hp, g, d, tk, os⟩ :=
      fun q => B.iter prog w _ _ ⟨hp, g, d, tk, os⟩ _ (B.keeps _ _ hl fun b o' e => e) q
    wp_walk
    refine wpAny_stack_any fun st => wpAny_pure ?_
    split
    · rename_i c _ _ _ _ _
      cases (c == Value.type "enumerate")
      · wp_walk using q1
        exact ⟨_, rfl, h⟩
      · wp_walk using q1
        exact ⟨_, rfl, h⟩
    · wp_walk using q1
      exact ⟨_, rfl, h⟩
section
variable {prog : Program} {w : World} {A : Around} {E : Value → Shared → Prop} {s : Shared}
theorem call_enumerate_B {v : Value} {o : Obj} {Hv : Heap → Prop} (B : Begins v o Hv) {Q : Value → Shared → Prop} (hl : Hv s.heap)
    (h : ∀ h', IsEnum h' (s.heap.objs.size + 1) s.heap.objs.size 0 .none → h'.get? s.heap.objs.size = some o → h'.objs.size = s.heap.objs.size + 2 →
      (∀ b o, s.heap.get? b = some o → h'.get? b = some o) → Q (.ref (s.heap.objs.size + 1)) { s with heap := h' }) :
    wpAny (model prog w) A (call (.type "enumerate") [v]) Q E s := by
  refine callType_new F.called_enumerate (by decide) (F.typeCall_enumerate_1 _) (F.newCall_enumerate_1 _) (fun obj => F.args_object_init_2 obj _) F.entry_enumerate_new
    (meets_enumerate_newB B) ⟨hl, ?_⟩
  have hz : (s.heap.push o).objs.size = s.heap.objs.size + 1 := Heap.size_push ..
  show _ ∧ _
  rw [hz]
  have he : IsEnum ((s.heap.push o).push { cls := .type "enumerate", data := .fields #[.none, .bool false, .ref s.heap.objs.size, rawInt 0, .none, .none] }) (s.heap.objs.size + 1) s.heap.objs.size 0 .none := by
    have := Heap.get?_push_size (s.heap.push o) (o := { cls := .type "enumerate", data := .fields #[.none, .bool false, .ref s.heap.objs.size, rawInt 0, .none, .none] }) rfl
    rw [hz] at this; exact this
  refine ⟨⟨_, he, rfl⟩, h _ he (Heap.get?_push_of_some _ (Heap.get?_push_size _ B.free)) (by rw [Heap.size_push, hz]) fun b o x => Heap.get?_push_of_some _ (Heap.get?_push_of_some _ x)⟩
end
theorem two {e it b : Addr} (h : b ∈ [e, it]) : b = e ∨ b = it := by simpa using h
/-- the tuple at a, each item in a new pair with its place -/
def IteT (K : PySem.W.Frag) (a : Addr) : It :=
  ⟨fun i H => ∃ (xs : List V) (x : V), SqT K H a xs ∧ xs[i]? = some x, fun i H v H' => ∃ T x, v = .ref T ∧ H T = none ∧ H' = upd H T (.tup [.int (i : Nat), x]) ∧ ∀ xs, SqT K H a xs → xs[i]? = some x, fun i H => ∃ xs : List V, SqT K H a xs ∧ xs.length ≤ i⟩
theorem turn_enumT {P : Program} {w : World} {K : PySem.W.Frag} {elts : List Expr} {kk : Nat} {tpos : Pos} (a e it : Addr) (hae : e ≠ a) (hai : it ≠ a) :
    Turn P w K (.Tuple elts kk tpos) (IteT K a) [e, it] e (fun i h => (∃ old, IsEnum h e it ((i : Nat) : Int) old) ∧ h.IsTupleIter it a i ∧ e ≠ it) where
  mem := by simp
  obj := fun i h st b hb => by
    obtain ⟨⟨old, he⟩, ⟨o, ho, hc, hd⟩, _⟩ := st
    rcases two hb with z | z
    · rw [z]; exact ⟨_, he, fun v q => nomatch q⟩
    · rw [z]; exact ⟨o, ho, fun v q => by rw [hd] at q; cases q⟩
  keep := fun i h h' st k => let ⟨⟨old, he⟩, hi, hne⟩ := st; ⟨⟨old, k e (by simp) _ he⟩, hi.at fun o q => k it (by simp) o q, hne⟩
  item := by
    intro X hP hw hK hc i pins s σ H E I hf st hg
    subst hP hw hK
    obtain ⟨⟨old, he⟩, hit, hne⟩ := st
    obtain ⟨xs, x, hq, hx⟩ := hg
    obtain ⟨its, rv, p, _⟩ := I.tuple hq
    obtain ⟨u, hu, ru⟩ := rv.get hx
    have hel : e < s.heap.objs.size := Heap.lt_size he
    have hil : it < s.heap.objs.size := by obtain ⟨_, q, _⟩ := hit; exact Heap.lt_size q
    have D := Draws.tuple (prog := X.prog) (w := X.w) (A := X.A.in1) (I.ok.hd hc) it a (Ne.symm hai) its.toArray
    have hlt : i < its.toArray.size := by
      have := (List.getElem?_eq_some_iff.mp hu).1
      simpa using this
    refine wpAny_pyNext_enum_itemD D he ⟨hit, p⟩ hlt hne (by simp [hne, hae]) fun y h' tk py ho st' hT hsz hk => ?_
    obtain rfl : y = u := by
      have : its[i]? = some y := by simpa using py
      rw [hu] at this
      exact (Option.some.inj this).symm
    refine ⟨_, rfl, wpAny_letOwnedTupleGo_enum (s := { s with heap := h', toks := tk + 1 }) ho fun h'' he' sb => ?_⟩
    have hT2 := (sb.2 _ (Nat.ne_of_gt hel)).trans hT
    have new : ObjOk X.prog X.w (upd H s.heap.objs.size (.tup [.int (i : Nat), x])) h'' s.heap.objs.size (.tup [.int (i : Nat), x]) :=
      ⟨by show 2 ≤ sizeLine; decide, [.int i tk, y], .cons ⟨_, rfl⟩ (.cons ru .nil), ⟨_, hT2, rfl, _, rfl⟩⟩
    have I1 : Inv X pins σ (upd H s.heap.objs.size (.tup [.int (i : Nat), x])) { s with heap := h'', toks := tk + 1 } :=
      I.turnedNew (t' := tk + 1) (ch := [e, it]) (fun b ob hb q => (sb.2 b (fun z => hb (by simp [z]))).trans (hk b ob (fun z => hb (by simp [z])) (fun z => hb (by simp [z])) q)) hf (Nat.le_refl _) new
    refine ⟨.ref s.heap.objs.size, _, I1, rfl, ⟨_, x, rfl, I.hok.fresh (Nat.le_refl _), rfl, fun ys hy => by rw [I.tuple_inj hy hq]; exact hx⟩, ⟨⟨y, ?_⟩, ?_, hne⟩, fun b hb => ?_⟩
    · have e1 : ((i + 1 : Nat) : Int) = (i : Int) + 1 := by omega
      rw [e1]; exact he'
    · exact st'.1.at fun o q => (sb.2 it (Ne.symm hne)).trans q
    · have hb' : b < s.heap.objs.size := by
        rcases two hb with z | z
        · rw [z]; exact hel
        · rw [z]; exact hil
      rw [upd_ne (Nat.ne_of_lt hb')]
      exact (hf b hb).1
  done := by
    intro X hP hw hK hc i pins s σ H E I hf st hg
    subst hP hw hK
    obtain ⟨⟨old, he⟩, hit, hne⟩ := st
    obtain ⟨xs, hq, hx⟩ := hg
    obtain ⟨its, rv, p, _⟩ := I.tuple hq
    obtain ⟨f0, f1, f2, f3, f4, f5⟩ := hf it (by simp)
    have hl := rv.length
    have hh : X.A.in1.handled = none := I.ok.hd hc
    have hT : s.TypeIs (.ref e) "enumerate" := ⟨_, he, rfl⟩
    unfold pyNext
    refine wpAny_bind (wpAny_attempt (wpAny_callSpecial?_slot (name := Str.ofString "__next__") hT F.slot_enumerate_next
      (wpAny_call_entry F.slot_enumerate_next hT F.entry_enumerate_next ?_ (F.args_enumerate_next_1 _))))
    show wpAny _ _ (field (.ref e) 2 >>= _) _ _ _
    refine wpAny_bind (wpAny_field he rfl (x := .ref it) rfl ?_)
    refine wpAny_bind (wpAny_nextOf_tuple_end hh hit p (by simp; omega) fun h' x he' hx' => ?_)
    obtain ⟨o, ho, hc⟩ := hx'
    refine wpAny_bind (wpAny_isInstance (T := "StopIteration") (b := true) ⟨o, ho, hc⟩ isSubtype_stop ?_)
    exact wpAny_pure ⟨rfl, I.turned (t' := s.toks) (fun b o hb q => he' b o hb q) f0 f1 f3 f4 f5⟩
  self := fun A i s Q E st h => let ⟨⟨_, he⟩, _⟩ := st; wpAny_pyIter_enum he h
def iEnumT (K : PySem.W.Frag) (ta : TA) : TI := fun σ H R => ta σ H fun vs H1 => ∃ a xs, vs = [.ref a] ∧ SqT K H1 a xs ∧ R (IteT K a) H1
theorem pi_enumT {X : Cx} {e : Expr} {ta : TA} {p pos tpos : Pos} {elts : List Expr} {kk : Nat} (hg : Gl X "enumerate") (hm : X.mg "enumerate" = none) (ha : PA X [e] ta) (hs : starEach [e] X.env = [(false, eval e X.env)] := by rfl) :
    PI X (.Tuple elts kk tpos) (.Call (.Name "enumerate" p) [e] [] pos) (iEnumT X.K ta) := by
  refine ⟨fun pins s σ H R I h => ?_⟩
  refine Call_ (ld_blt I hg hm boot_enumerate (PyProof.Rows.callWith_type1 (thn (ha.run pos pins s σ H _ I h) fun us s1 ⟨vs, H1, I1, r1, q1⟩ => ?_) hs rfl))
  obtain ⟨a, xs, ex, hq, q⟩ := q1
  subst ex
  cases r1 with
  | cons r rr =>
    cases rr
    cases r
    obtain ⟨its, rv, p', _⟩ := I1.tuple hq
    have hal : a < s1.heap.objs.size := by obtain ⟨_, q, _⟩ := id p'; exact Heap.lt_size q
    refine call_enumerate_B (begins_tuple a its.toArray) p' fun h' he hit hsz hk => wpAny_pyIter_enum he ?_
    have I2 : Inv X pins σ H1 { s1 with heap := h' } := I1.kept (t' := s1.toks) hk
    refine ⟨s1.heap.objs.size + 1, [s1.heap.objs.size + 1, s1.heap.objs.size], _, _, H1, rfl, I2, turn_enumT a (s1.heap.objs.size + 1) s1.heap.objs.size (Nat.ne_of_gt (Nat.lt_succ_of_lt hal)) (Nat.ne_of_gt hal), ⟨⟨.none, he⟩, ⟨_, hit, rfl, rfl⟩, Nat.succ_ne_self _⟩, fun b hb => ?_, q⟩
    have hle : s1.heap.objs.size ≤ b := by
      rcases two hb with z | z
      · rw [z]; exact Nat.le_add_right _ _
      · rw [z]; exact Nat.le_refl _
    exact I1.fpOk hle (I1.hok.fresh hle)
/-- the tuple at a and the list at b as they stand at each turn, the items in new pairs -/
def ItzM (K : PySem.W.Frag) (a b : Addr) : It :=
  ⟨fun i H => ∃ (xs ys : List V) (x y : V), SqT K H a xs ∧ SqL K H b ys ∧ xs[i]? = some x ∧ ys[i]? = some y,
    fun i H v H' => ∃ T x y, v = .ref T ∧ H T = none ∧ H' = upd H T (.tup [x, y]) ∧ (∀ xs, SqT K H a xs → xs[i]? = some x) ∧ ∀ ys, SqL K H b ys → ys[i]? = some y,
    fun i H => ∃ xs ys : List V, SqT K H a xs ∧ SqL K H b ys ∧ xs.length = ys.length ∧ xs.length = i⟩
structure ZApM (z TI TO i1 i2 a b : Addr) : Prop where
  TIz : TI ≠ z
  TOz : TO ≠ z
  i1z : i1 ≠ z
  i2z : i2 ≠ z
  TITO : TI ≠ TO
  TIi1 : TI ≠ i1
  TIi2 : TI ≠ i2
  TOi1 : TO ≠ i1
  TOi2 : TO ≠ i2
  i12 : i1 ≠ i2
  az : a ≠ z
  aT : a ≠ TO
  a1 : a ≠ i1
  a2 : a ≠ i2
  bz : b ≠ z
  bT : b ≠ TO
  b1 : b ≠ i1
  b2 : b ≠ i2
theorem ZApM.sep {z TI TO i1 i2 a b : Addr} (D : ZApM z TI TO i1 i2 a b) : ZipSep2 z TI TO i1 i2 [i1, a] [i2, b] where
  TIz := D.TIz
  TOz := D.TOz
  TITO := D.TITO
  TIi1 := D.TIi1
  mem1 := by simp
  zf1 := by simp [D.i1z.symm, D.az.symm]
  Tf1 := by simp [D.TOi1, D.aT.symm]
  TIi2 := D.TIi2
  mem2 := by simp
  zf2 := by simp [D.i2z.symm, D.bz.symm]
  Tf2 := by simp [D.TOi2, D.bT.symm]
  sep1_2 := by simp [D.i12, D.b1.symm]
  sep2_1 := by simp [D.i12.symm, D.a2.symm]
theorem zapM (N a b : Nat) (la : a < N) (lb : b < N) : ZApM (N + 4) (N + 2) (N + 3) N (N + 1) a b := by
  constructor <;> exact (show ¬ ((_ : Nat) = _) from by omega)
theorem turn_zipM {P : Program} {w : World} {K : PySem.W.Frag} {elts : List Expr} {kk : Nat} {tpos : Pos} {a b z TI TO i1 i2 : Addr} (D : ZApM z TI TO i1 i2 a b) :
    Turn P w K (.Tuple elts kk tpos) (ItzM K a b) [z, TI, TO, i1, i2] z (fun i h => IsZip h z TI TO .none ∧ PySem.IsPair h TI (.ref i1) (.ref i2) ∧ (∃ x y, PySem.IsPair h TO x y) ∧ h.IsTupleIter i1 a i ∧ h.IsListIter i2 b i) where
  mem := by simp
  obj := fun i h st c hc => by
    obtain ⟨hz, hTI, ⟨x, y, hTO⟩, ⟨o1, e1, _, d1⟩, ⟨o2, e2, _, d2⟩⟩ := st
    have e' : c = z ∨ c = TI ∨ c = TO ∨ c = i1 ∨ c = i2 := by simpa using hc
    rcases e' with q | q | q | q | q
    · rw [q]; exact ⟨_, hz, fun v q => nomatch q⟩
    · rw [q]; exact ⟨_, hTI, fun v q => nomatch q⟩
    · rw [q]; exact ⟨_, hTO, fun v q => nomatch q⟩
    · rw [q]; exact ⟨o1, e1, fun v q => by rw [d1] at q; cases q⟩
    · rw [q]; exact ⟨o2, e2, fun v q => by rw [d2] at q; cases q⟩
  keep := fun i h h' st k => by
    obtain ⟨hz, hTI, ⟨x, y, hTO⟩, h1, h2⟩ := st
    exact ⟨k z (by simp) _ hz, k TI (by simp) _ hTI, ⟨x, y, k TO (by simp) _ hTO⟩, h1.at fun o q => k i1 (by simp) o q, h2.at fun o q => k i2 (by simp) o q⟩
  item := by
    intro X hP hw hK hc i pins s σ H E I hf st hg
    subst hP hw hK
    obtain ⟨hz, hTI, ⟨x0, y0, hTO⟩, h1, h2⟩ := st
    obtain ⟨xs, ys, x, y, hqx, hqy, hx, hy⟩ := hg
    obtain ⟨its, rv, p, _⟩ := I.tuple hqx
    obtain ⟨its2, rv2, p2, _⟩ := I.list hqy
    obtain ⟨u, hu, ru⟩ := rv.get hx
    obtain ⟨u2, hu2, ru2⟩ := rv2.get hy
    have hzl : z < s.heap.objs.size := Heap.lt_size hz
    have hl1 : i < its.toArray.size := by have := (List.getElem?_eq_some_iff.mp hu).1; simpa using this
    have hl2 : i < its2.toArray.size := by have := (List.getElem?_eq_some_iff.mp hu2).1; simpa using this
    have D1 := Draws.tuple (prog := X.prog) (w := X.w) (A := X.A.in1) (I.ok.hd hc) i1 a D.a1 its.toArray
    have D2 := Draws.list (prog := X.prog) (w := X.w) (A := X.A.in1) (I.ok.hd hc) i2 b D.b2 its2.toArray
    refine wpAny_pyNext_zipD2_item D.sep D1 D2 hz hTI hTO ⟨h1, p⟩ ⟨h2, p2.isList⟩ hl1 hl2 fun w1 w2 h' tk p1' p2' z' TO' h1' h2' hT hsz hk => ?_
    obtain rfl : w1 = u := by
      have : its[i]? = some w1 := by simpa using p1'
      rw [hu] at this
      exact (Option.some.inj this).symm
    obtain rfl : w2 = u2 := by
      have : its2[i]? = some w2 := by simpa using p2'
      rw [hu2] at this
      exact (Option.some.inj this).symm
    refine ⟨_, rfl, wpAny_letOwnedTupleGo_zip (s := { s with heap := h', toks := tk }) z' fun h'' z'' sb => ?_⟩
    have hT2 : h''.get? s.heap.objs.size = some { cls := .type "tuple", data := .seq #[w1, w2] } := (sb.2 _ (Nat.ne_of_gt hzl)).trans hT
    have new : ObjOk X.prog X.w (upd H s.heap.objs.size (.tup [x, y])) h'' s.heap.objs.size (.tup [x, y]) :=
      ⟨by show 2 ≤ sizeLine; decide, [w1, w2], .cons ru (.cons ru2 .nil), ⟨_, hT2, rfl, _, rfl⟩⟩
    have I1 : Inv X pins σ (upd H s.heap.objs.size (.tup [x, y])) { s with heap := h'', toks := tk } :=
      I.turnedNew (t' := tk) (ch := [z, TI, TO, i1, i2]) (fun c o hb q => (sb.2 c (fun q' => hb (by simp [q']))).trans (hk c o (fun q' => hb (by simp [q'])) (fun q' => hb (by simp [q'])) (fun q' => hb (by simp [q'])) (fun q' => hb (by simp [q'])) q)) hf (Nat.le_refl _) new
    refine ⟨.ref s.heap.objs.size, _, I1, rfl, ⟨_, x, y, rfl, I.hok.fresh (Nat.le_refl _), rfl, fun l hl => by rw [I.tuple_inj hl hqx]; exact hx, fun l hl => by rw [I.list_inj hl hqy]; exact hy⟩, ⟨z'', ?_, ⟨w1, w2, ?_⟩, ?_, ?_⟩, fun c hcm => ?_⟩
    · exact (sb.2 _ D.TIz).trans (hk _ _ D.TIz D.TITO D.TIi1 D.TIi2 hTI)
    · exact (sb.2 _ D.TOz).trans TO'
    · exact h1'.1.at fun o q => (sb.2 _ D.i1z).trans q
    · exact h2'.1.at fun o q => (sb.2 _ D.i2z).trans q
    · have hlt : c < s.heap.objs.size := by
        have e' : c = z ∨ c = TI ∨ c = TO ∨ c = i1 ∨ c = i2 := by simpa using hcm
        rcases e' with q | q | q | q | q
        · rw [q]; exact hzl
        · rw [q]; exact Heap.lt_size hTI
        · rw [q]; exact Heap.lt_size hTO
        · rw [q]; obtain ⟨_, e1, _⟩ := h1; exact Heap.lt_size e1
        · rw [q]; obtain ⟨_, e2, _⟩ := h2; exact Heap.lt_size e2
      rw [upd_ne (Nat.ne_of_lt hlt)]
      exact (hf c hcm).1
  done := by
    intro X hP hw hK hc i pins s σ H E I hf st hg
    subst hP hw hK
    obtain ⟨hz, hTI, ⟨x0, y0, hTO⟩, h1, h2⟩ := st
    obtain ⟨xs, ys, hqx, hqy, hle, hei⟩ := hg
    obtain ⟨its, rv, p, _⟩ := I.tuple hqx
    obtain ⟨its2, rv2, p2, _⟩ := I.list hqy
    have l1 := rv.length
    have l2 := rv2.length
    have D1 := Draws.tuple (prog := X.prog) (w := X.w) (A := X.A.in1) (I.ok.hd hc) i1 a D.a1 its.toArray
    have D2 := Draws.list (prog := X.prog) (w := X.w) (A := X.A.in1) (I.ok.hd hc) i2 b D.b2 its2.toArray
    exact wpAny_pyNext_zipD2_end D.sep D1 D2 hz hTI hTO ⟨h1, p⟩ ⟨h2, p2.isList⟩ (by simp; omega) (by simp; omega) (.inl (by simp; omega)) fun h' tk hk => ⟨rfl, I.turnedL (t' := tk) (ch := [z, TI, TO, i1, i2]) (fun c o hb q =>
      hk c o (fun q' => hb (by simp [q'])) (fun q' => hb (by simp [q'])) (fun q' => hb (by simp [q'])) (fun q' => hb (by simp [q'])) q) hf⟩
  self := fun A i s Q E st h => wpAny_pyIter_zip st.1 h
def iZipM (K : PySem.W.Frag) (ta : TA) : TI := fun σ H R => ta σ H fun vs H1 => ∃ a b xs ys, vs = [.ref a, .ref b] ∧ SqT K H1 a xs ∧ SqL K H1 b ys ∧ R (ItzM K a b) H1
theorem pi_zipM {X : Cx} {e e2 : Expr} {ta : TA} {p pos tpos : Pos} {elts : List Expr} {kk : Nat} (hg : Gl X "zip") (hm : X.mg "zip" = none) (ha : PA X [e, e2] ta)
    (hs : starEach [e, e2] X.env = (false, eval e X.env) :: starEach [e2] X.env := by rfl) (hpl : (backTo pos (starEach [e2] X.env)).any (·.1) = false := by rfl) :
    PI X (.Tuple elts kk tpos) (.Call (.Name "zip" p) [e, e2] [] pos) (iZipM X.K ta) := by
  refine ⟨fun pins s σ H R I h => ?_⟩
  refine Call_ (ld_blt I hg hm PyProof.Rows.boot_zip (PyProof.Rows.callWith_type1 (thn (ha.run pos pins s σ H _ I h) fun us s1 ⟨vs, H1, I1, r1, q1⟩ => ?_) hs hpl))
  obtain ⟨a, b, xs, ys, ex, hqx, hqy, q⟩ := q1
  subst ex
  cases r1 with
  | cons r rr =>
    cases rr with
    | cons r' rr =>
      cases rr
      cases r
      cases r'
      have fresh5 : ∀ c, c ∈ [s1.heap.objs.size + 4, s1.heap.objs.size + 2, s1.heap.objs.size + 3, s1.heap.objs.size, s1.heap.objs.size + 1] → FpOk X pins H1 c := fun c hcm => by
        have e' : c = s1.heap.objs.size + 4 ∨ c = s1.heap.objs.size + 2 ∨ c = s1.heap.objs.size + 3 ∨ c = s1.heap.objs.size ∨ c = s1.heap.objs.size + 1 := by simpa using hcm
        have hle : s1.heap.objs.size ≤ c := by
          rcases e' with z | z | z | z | z
          · rw [z]; exact Nat.le_add_right _ _
          · rw [z]; exact Nat.le_add_right _ _
          · rw [z]; exact Nat.le_add_right _ _
          · rw [z]; exact Nat.le_refl _
          · rw [z]; exact Nat.le_add_right _ _
        exact I1.fpOk hle (I1.hok.fresh hle)
      obtain ⟨its, rv, p1, _⟩ := I1.tuple hqx
      obtain ⟨its2, rv2, p2, _⟩ := I1.list hqy
      have la : a < s1.heap.objs.size := by obtain ⟨_, q, _⟩ := id p1; exact Heap.lt_size q
      have lb : b < s1.heap.objs.size := p2.lt
      refine zip_begins2 (begins_tuple a its.toArray) (begins_list b its2.toArray) p1 p2.isList fun h' hz hTI hTO h1 h2 hsz hk => wpAny_pyIter_zip hz ?_
      have I2 : Inv X pins σ H1 { s1 with heap := h' } := I1.kept (t' := s1.toks) hk
      have la' : (a : Nat) < s1.heap.objs.size := la
      have lb' : (b : Nat) < s1.heap.objs.size := lb
      generalize hN : s1.heap.objs.size = N at *
      refine ⟨N + 4, [N + 4, N + 2, N + 3, N, N + 1], _, _, H1, rfl, I2, turn_zipM (a := a) (b := b) (i1 := N) (i2 := N + 1) ?_, ⟨hz, hTI, ⟨_, _, hTO⟩, ⟨_, h1, rfl, rfl⟩, ⟨_, h2, rfl, rfl⟩⟩, fresh5, q⟩
      exact zapM N a b la' lb'
end Ez

set_option Elab.async false
set_option linter.all false
set_option maxRecDepth 100000
set_option maxHeartbeats 2000000
/-! programs: entries_of. -/
namespace En
open PySem PySem.Spec PyProof.Rows L2 Sx Rp Dw NdefX GxR Rw Th Kd Gx Nm Hs Pr Ps Lw Lh Lp Lq Ez
/-- the entry to which a call leads -/
def nxt (ns : List Str) (rows : List (List (Str × Nat))) (st : Nat) (c : Str) : Str × Nat := (((rows[st]?).getD [])[ns.idxOf c]?).getD (Str.empty, 0)
def walk (ns : List Str) (rows : List (List (Str × Nat))) : Nat → List Str → List (Str × Nat)
  | _, [] => []
  | st, c :: cs => nxt ns rows st c :: walk ns rows (nxt ns rows st c).2 cs
def stAt (ns : List Str) (rows : List (List (Str × Nat))) (st : Nat) (ws : List Str) : Nat := ws.foldl (fun s c => (nxt ns rows s c).2) st
theorem walk_len (ns : List Str) (rows : List (List (Str × Nat))) : ∀ (ws : List Str) (st : Nat), (walk ns rows st ws).length = ws.length
  | [], _ => rfl
  | c :: cs, st => by show (walk ns rows _ cs).length + 1 = cs.length + 1; rw [walk_len ns rows cs]
theorem walk_get (ns : List Str) (rows : List (List (Str × Nat))) : ∀ (ws : List Str) (st i : Nat) (c : Str), ws[i]? = some c → (walk ns rows st ws)[i]? = some (nxt ns rows (stAt ns rows st (ws.take i)) c)
  | [], st, i, c, h => by simp at h
  | c :: cs, st, 0, d, h => by cases h; rfl
  | c :: cs, st, i + 1, d, h => walk_get ns rows cs (nxt ns rows st c).2 i d h
theorem st_snoc {ns : List Str} {rows : List (List (Str × Nat))} {ws : List Str} {st i : Nat} {c : Str} (h : ws[i]? = some c) : stAt ns rows st (ws.take (i + 1)) = (nxt ns rows (stAt ns rows st (ws.take i)) c).2 := by
  unfold stAt
  rw [List.take_add_one, h]
  show ((ws.take i) ++ [c]).foldl _ st = _
  rw [List.foldl_append]; rfl
/-- a program's entry, where it is -/
theorem nxt_ok {h : Th} {rows : List (List (Str × Nat))} {st : Nat} {c : Str} (D : ProgD h rows) (hs : st < rows.length) (hc : c ∈ Pr.namesOf h) :
    ∃ r, rows[st]? = some r ∧ r[(Pr.namesOf h).idxOf c]? = some (nxt (Pr.namesOf h) rows st c) ∧ (nxt (Pr.namesOf h) rows st c).2 < rows.length ∧ ∃ ns, (ansOf h)[(Pr.namesOf h).idxOf c]? = some ns ∧ (nxt (Pr.namesOf h) rows st c).1 ∈ ns := by
  have hr : rows[st]? = some rows[st] := List.getElem?_eq_getElem hs
  have R := D.rows _ (List.mem_of_getElem? hr)
  have hi := List.idxOf_lt_length_iff.mpr hc
  have l1 : (Pr.namesOf h).length = (ansOf h).length := by unfold Pr.namesOf strsOf ansOf; simp
  have hr2 : rows[st][(Pr.namesOf h).idxOf c]? = some (rows[st][(Pr.namesOf h).idxOf c]'(by rw [R.len]; omega)) := List.getElem?_eq_getElem (by rw [R.len]; omega)
  have hn : (ansOf h)[(Pr.namesOf h).idxOf c]? = some ((ansOf h)[(Pr.namesOf h).idxOf c]'(by omega)) := List.getElem?_eq_getElem (by omega)
  have e : nxt (Pr.namesOf h) rows st c = rows[st][(Pr.namesOf h).idxOf c]'(by rw [R.len]; omega) := by
    unfold nxt
    rw [hr]
    show ((rows[st])[_]?).getD _ = _
    rw [hr2]; rfl
  obtain ⟨q1, q2⟩ := R.en _ _ _ hr2 hn
  refine ⟨_, hr, by rw [e]; exact hr2, by rw [e]; exact q2, _, hn, by rw [e]; exact q1⟩
/-- the entries, as they stand -/
def EntsAt (H : Hp) (xs : List V) (es : List (Str × Nat)) : Prop := xs.length = es.length ∧ ∀ (i : Nat) (v : V) (e : Str × Nat), xs[i]? = some v → es[i]? = some e → IsTh H v (enT e)
theorem names_nd {h : Th} (H : houseT h = true) : (Pr.namesOf h).Nodup := by
  have q := (house_p H).names
  unfold namesT at q
  simp only [Bool.and_eq_true, decide_eq_true_eq] at q
  exact q.2.2
theorem scEs : FnScope ["program", "word", "number", "found", "state", "call", "pair", "at", "name"] ["program", "word"] (defScope sEntries) := ⟨rfl, rfl, rfl, by decide +kernel, rfl, by decide +kernel, by decide +kernel⟩
/-- the numbers of the calls -/
def NumAt (G : Hp) (D : Addr) (ns : List Str) (i : Nat) : Prop := ∃ kvs : List (Key × V), G D = some (.dK kvs) ∧ kvs.length ≤ i ∧ ∀ s ∈ ns.take i, valV kvs (.inr s) = some (.int ((ns.idxOf s : Nat) : Int))
theorem num_put {G : Hp} {D : Addr} {ns : List Str} {kvs : List (Key × V)} {i : Nat} {s : Str} (nd : ns.Nodup) (hi : ns[i]? = some s) (l : kvs.length ≤ i) (v : ∀ s ∈ ns.take i, valV kvs (.inr s) = some (.int ((ns.idxOf s : Nat) : Int))) :
    NumAt (upd G D (.dK (putK kvs (.inr s) (.int (i : Nat))))) D ns (i + 1) := by
  refine ⟨_, upd_same, Nat.le_trans (DSub.putK_len kvs _ _) (by omega), fun z hz => ?_⟩
  rw [valV_put]
  have ei : ns.idxOf s = i := by
    obtain ⟨h1, h2⟩ := List.getElem?_eq_some_iff.mp hi
    rw [← h2]
    exact nd.idxOf_getElem i h1
  by_cases e : (Sum.inr z : Key) = Sum.inr s
  · rw [if_pos e]
    cases e
    rw [ei]
  · rw [if_neg e]
    refine v z ?_
    rw [List.take_add_one, hi] at hz
    rcases List.mem_append.mp hz with h | h
    · exact h
    · exact absurd (congrArg Sum.inr (List.mem_singleton.mp h)) e
theorem tup_at {H : Hp} {v : V} {ts : List Th} (h : IsTh H v (.tup ts)) {i : Nat} {t : Th} (e : ts[i]? = some t) : ∃ a xs x, v = .ref a ∧ H a = some (.tup xs) ∧ atI xs ((i : Nat) : Int) = some x ∧ IsTh H x t := by
  cases h with
  | tup a xs ts' ha l _ ex =>
    have hi : i < xs.length := by rw [l]; exact (List.getElem?_eq_some_iff.mp e).1
    have hx : xs[i]? = some xs[i] := List.getElem?_eq_getElem hi
    exact ⟨a, xs, xs[i], rfl, ha, atI_nat hx, ex i _ _ hx e⟩
theorem isTh_int {H : Hp} {v : V} {i : Int} (h : IsTh H v (.int i)) : v = .int i := by cases h; rfl
theorem isTh_sT {H : Hp} {v : V} {s : Str} (h : IsTh H v (sT s)) : v = .str s := by
  have e : sT s = .str s.cps.toList := rfl
  rw [e] at h
  cases h
  rw [sT_arr]
/-- over enumerate of a tuple that stays -/
theorem dc_enumT {K : PySem.W.Frag} {a : Addr} {xs : List V} {g : TG} {tt : TT} {tk tv : TE} {vs : List Nat} {σ : L2.St} {H1 : Hp} {D : Addr} {Qd : Hp → Prop} (Pv : Nat → Hp → Prop) (h0 : Pv 0 (upd H1 D (.dK []))) (hl : ∀ i H, i ≤ xs.length → Pv i H → SqT K H a xs)
    (hs : ∀ i x T H, xs[i]? = some x → Pv i H → H T = none → g (.ref T) (wipe σ vs) (upd H T (.tup [.int (i : Nat), x])) fun σ2 H2 => wipe σ2 vs = wipe σ vs ∧ tt σ2 H2 fun b H3 =>
      if b = true then tk σ2 H3 fun y H4 => tv σ2 H4 fun z H5 => ∃ kvs k, y = kV k ∧ H5 D = some (.dK kvs) ∧ kvs.length < sizeLine ∧ Pv (i + 1) (upd H5 D (.dK (putK kvs k z))) else Pv (i + 1) H3) (hd : ∀ H, Pv xs.length H → Qd H) :
    ∃ W : Nat → Nat → Hp → Prop, (∃ m, W 0 m (upd H1 D (.dK []))) ∧ ∀ i m H, W i m H →
      ((IteT K a).stop i H ∧ Qd H) ∨ ((IteT K a).go i H ∧ ∃ Nx : Hp → Prop, (∀ H', Nx H' → ∃ m', m' < m ∧ W (i + 1) m' H') ∧ ∀ x H', (IteT K a).yld i H x H' → g x (wipe σ vs) H' fun σ2 H2 => wipe σ2 vs = wipe σ vs ∧ tt σ2 H2 fun b H3 =>
        if b = true then tk σ2 H3 fun y H4 => tv σ2 H4 fun z H5 => ∃ kvs k, y = kV k ∧ H5 D = some (.dK kvs) ∧ kvs.length < sizeLine ∧ Nx (upd H5 D (.dK (putK kvs k z))) else Nx H3) := by
  refine ⟨fun i m H => m = xs.length - i ∧ i ≤ xs.length ∧ Pv i H, ⟨xs.length, by simp, Nat.zero_le _, h0⟩, ?_⟩
  rintro i m H ⟨rfl, hi, p⟩
  have q := hl i H hi p
  by_cases hlt : i < xs.length
  · refine .inr ⟨⟨xs, xs[i], q, by simp [hlt]⟩, Pv (i + 1), fun H' p' => ⟨xs.length - (i + 1), by omega, rfl, hlt, p'⟩, fun x H' y => ?_⟩
    obtain ⟨T, x', rfl, nT, rfl, ye⟩ := y
    exact hs i x' T H (ye xs q) p nT
  · have e : i = xs.length := by omega
    subst e
    exact .inl ⟨⟨xs, q, Nat.le_refl _⟩, hd H p⟩
theorem go_put {T : List Addr} {H G : Hp} {D : Addr} {o o' : HO} (g : Go T H G) (hn : H D = none) (hD : G D = some o') (no : ∀ ps, o' ≠ .tbl ps) : Go T H (upd G D o) := by
  have nT : D ∉ T := g.tb.ne hD no
  refine ⟨fun b u nb e => ?_, fun b hb => ?_⟩
  · rw [upd_ne (fun y => by rw [y, hn] at e; cases e)]; exact g.fr b u nb e
  · obtain ⟨ps, q1, q2⟩ := g.tb b hb
    exact ⟨ps, by rw [upd_ne (fun y : b = D => nT (by rw [← y]; exact hb))]; exact q1, q2⟩
theorem NumAt.keep {G G' : Hp} {D : Addr} {ns : List Str} {i : Nat} (h : NumAt G D ns i) (k : ∀ o, G D = some o → G' D = some o) : NumAt G' D ns i := by
  obtain ⟨kvs, e, r⟩ := h
  exact ⟨kvs, k _ e, r⟩
section
variable {X : Cx}
theorem ps_setDc {i : Nat} {y : Str} {py : Pos} {kx vx tg iter : Expr} {ifs : List Expr} {scope : Scope} {own : List (Str × Nat)} {pos spos : Pos} {wi : TI} {g : TG} {tt : TT} {tk tv : TE} (hc : X.calm = true) (hN : X.N.Nodup) (hy : X.N[i]? = some y) (hyl : X.env.scope.names.lookup y = some .local)
    (hsw : swapsWith (.DictComp kx vx [⟨tg, iter, ifs, 0⟩] scope pos) (some (.Name y py)) spos.line X.env = pure true) (hi : PI X tg iter wi) (ok : BlkOk X.N X.env.scope scope own)
    (hg : ∀ (s : Shared) (H : Hp) (C : Addr) (cl : List (Str × Addr)) (fp : List Addr), PG (X.blk s H scope (compEnvC scope cl C X.env) fp) tg g) (ht : ∀ (s : Shared) (H : Hp) (C : Addr) (cl : List (Str × Addr)) (fp : List Addr), PTs (X.blk s H scope (compEnvC scope cl C X.env) fp) ifs tt)
    (hk : ∀ (s : Shared) (H : Hp) (C : Addr) (cl : List (Str × Addr)) (fp : List Addr), PE (X.blk s H scope (compEnvC scope cl C X.env) fp) kx tk)
    (he : ∀ (s : Shared) (H : Hp) (C : Addr) (cl : List (Str × Addr)) (fp : List Addr), PE (X.blk s H scope (compEnvC scope cl C X.env) fp) vx tv) (hs : ∀ x, foldedSetIterable iter X.env x = pure x := by intro _; rfl) :
    PS X (.Assign [.Name y py] (.DictComp kx vx [⟨tg, iter, ifs, 0⟩] scope pos) spos) (tAsg (tDc wi g tt tk tv (own.map (·.2))) (gName i)) := by
  refine ⟨fun pins s σ H D I h => ?_⟩
  rw [exec_Assign_Name_used _ _ _ _ hsw]
  refine wpAny_bind (wpAny_standAt (wpAny_bind ?_))
  show wpAny _ X.A (do let _ ← comprehension (.DictComp kx vx [⟨tg, iter, ifs, 0⟩] scope pos) scope X.env (firstIterPos [⟨tg, iter, ifs, 0⟩] pos) newDict false (eval iter X.env) (some (assign (.Name y py) X.env))) _ _ s
  have h : tDc wi g tt tk tv (own.map (·.2)) σ H (fun x H1 => gName i x σ H1 D.nx) := h
  refine wpAny_bind (thn (dc_core (Qf := fun _ s' => SP X pins D .next s') hc hN I hi ok hg ht hk he hs h fun L C s' m H' I' q hn f => ?_) fun _ s' hq => wpAny_pure (wpAny_pure hq))
  show wpAny _ _ (assign (.Name y py) X.env (.ref L)) _ _ _
  refine wpAny_assign_Name (store_ok2 (v := V.ref L) I' hN hy (.inl hyl) rfl (fun s2 I2 ⟨a, sb, ha⟩ => ?_) (.inr hyl))
  obtain ⟨f0, f1, f2, f3, f4, f5⟩ := f
  have haC : C ≠ a := by
    rcases ha with z | z
    · rw [z]; exact f1
    · exact fun e => f4 y a z e.symm
  refine ⟨m, hn.sameBut sb haC, fun h3 sb3 => ?_⟩
  exact ⟨_, H', I2.turned (t' := s2.toks) (fun b o hb e => (sb3.2 b hb).trans e) f0 f1 f3 f4 f5, q⟩
theorem sw_trueD {kx vx : Expr} {gs : List Comprehension} {scope : Scope} {pos py : Pos} {y : Str} {l : Nat} {env : Env} (hk : env.scope.kind = .function) (hy : env.scope.names.lookup y = some .local) (hl : (py.line == pos.line) = true)
    (ha : (scope.names.any fun (n, k) => n == y && (k == .local || k == .cell)) = false) : swapsWith (.DictComp kx vx gs scope pos) (some (.Name y py)) l env = pure true := by
  have ky : env.kindOf y = some .local := hy
  have hb : env.blockKind = .function := by unfold Env.blockKind; rw [hk]; rfl
  unfold swapsWith
  simp only [hb, ky, ha, Expr.pos, hl]
  rfl
end
section
variable {P : Program} {w : World} {K : PySem.W.Frag} {mg : Str → Option Value} {base : Heap} {T : List Addr}
def spEntries (T : List Addr) : Sp := fun vs H Q _ => ∃ pv h rows wp ws, vs = [pv, .ref wp] ∧ IsTh H pv (pT h rows) ∧ ProgD h rows ∧ H wp = some (.tup ((ws : List Str).map V.str)) ∧ (∀ s ∈ ws, s ∈ Pr.namesOf h) ∧ ws.length ≤ 1000 ∧ Tabs T H ∧
  ∀ L xs H', Go T H H' → H' L = some (.lst xs) → H L = none → EntsAt H' xs (walk (Pr.namesOf h) rows 0 ws) → Q (.ref L) H'
theorem ok_entries {f g : Addr} {fd gd : FuncData} (F : Fun K "entries_of" "entries_of" sEntries f fd) (me : mg "enumerate" = none)
    (G : FnOk P w K mg base CX0 2 g gd ["house"] (spParts T 1)) (mG : mg "call_names" = some (.ref g)) (kG : PySem.W.keepIn K (.ref g) = true) (bG : Binds K gd ["house"] []) : FnOk P w K mg base CX0 3 f fd ["program", "word"] (spEntries T) := by
  refine F.ok scEs (fun vs H Q E h => ?_) (fun cdv A outer s H vs Q E hr h => ?_)
  · obtain ⟨pv, h, rows, wp, ws, rfl, _⟩ := h
    rfl
  · obtain ⟨pv', h, rows, wp, ws, rfl, hp, D, hw, hws, lw, tb, k⟩ := h
    have hu : (A.deeper (envOfC "entries_of" (defScope sEntries) s.heap.objs.size f cdv)).units + 1 < cLine := hu_of hr
    refine ⟨_, pss_cons (ps_setDc (i := 2) (own := [("at", 7), ("name", 8)]) (g := gTup K 2 (gCons (gName 7) (gCons (gName 8) gNil))) (tt := tYes) (tk := tVar 8) (tv := tVar 7) (by rfl) scEs.nd rfl rfl (sw_trueD rfl rfl rfl (by decide +kernel))
        (pi_enumT (by rfl) me (pa_cons (pe_call G hr rfl mG kG bG .nil pass0 (pa_cons (pe_ix ix_tup (pv 0) pe_int (fun _ _ => rfl)) pa_nil)) pa_nil)) (blkOk_by (own := [("at", 7), ("name", 8)]) (N := ["program", "word", "number", "found", "state", "call", "pair", "at", "name"]) (sc := defScope sEntries) (by decide +kernel))
        (fun _ _ _ _ _ => pg_tup rfl (pgs_cons (pg_name (i := 7) scEs.nd rfl (Or.inl rfl)) (pgs_cons (pg_name (i := 8) scEs.nd rfl (Or.inl rfl)) pgs_nil))) (fun _ _ _ _ _ => pts_nil) (fun _ _ _ _ _ => pv 8) (fun _ _ _ _ _ => pv 7))
      (pss_cons (ps_set (i := 3) scEs.nd rfl (Or.inl rfl) (pe_lst pa_nil))
      (pss_cons (ps_set (i := 4) scEs.nd rfl (Or.inl rfl) pe_int)
      (pss_cons (ps_for PassesOwn.never rfl (pi_tup (pv 1)) (pg_name (i := 5) scEs.nd rfl (Or.inl rfl))
        (pss_cons (ps_set (i := 6) scEs.nd rfl (Or.inl rfl) (pe_ix ix_tup (pe_ix ix_tup (pe_ix ix_tup (pv 0) pe_int (fun _ _ => rfl)) (pv 4) (fun _ _ => rfl)) (pe_dget hu (pv 2) (pv 5) (fun _ _ => rfl)) (fun _ _ => rfl)))
        (pss_cons (ps_expr (pe_bm PySem.F.plainAttrs_list PySem.F.slot_list_append PySem.F.type_list_append mt_append (pv 3) (pa_cons (pv 6) pa_nil)))
        (pss_one (ps_set (i := 4) scEs.nd rfl (Or.inl rfl) (pe_ix ix_tup (pv 6) pe_int (fun _ _ => rfl)))))))
      (pss_one (ps_ret (pv 3)))))), ?_⟩
    have g0 := Go.refl tb
    have ho := D.house.ok
    have hP := house_p ho
    obtain ⟨a1, xs1, hv, rfl, ha1, hx1, hh⟩ := tup_at hp (i := 1) (t := h) rfl
    have ety : ∀ t ∈ (items (Hs.nth 1 h)).map (Hs.nth 1), ∃ z, t = Th.str z := names_all hP.names
    have l5 := hP.len
    have nd := names_nd ho
    have hN5 : (Pr.namesOf h).length ≤ 5 := by unfold Pr.namesOf strsOf; rw [List.length_map, List.length_map]; exact l5
    refine ⟨_, rfl, a1, xs1, _, _, rfl, rfl, SqT.of ha1, hx1, hv, h, rfl, hh, tb, hP.told, hP.tup, hP.calls, by omega, fun p G1 g1 hnp => ?_⟩
    have hns : G1 p = some (.tup ((Pr.namesOf h).map V.str)) := names_at hnp ety
    refine ⟨p, _, rfl, SqT.of hns, fun Dd nD => ?_⟩
    have newK : ∀ {G : Hp} {t b : Addr} {o u : HO}, G t = none → G b = some u → (upd G t o) b = some u := fun {G t b o u} n1 e => by rw [upd_ne (fun y => by rw [y, n1] at e; cases e)]; exact e
    have pD : p ≠ Dd := fun y => by rw [y, nD] at hns; cases hns
    refine dc_enumT (a := p) (xs := (Pr.namesOf h).map V.str) (fun i G => Go T H G ∧ G p = some (.tup ((Pr.namesOf h).map V.str)) ∧ NumAt G Dd (Pr.namesOf h) i) ⟨g1.new nD, newK nD hns, ⟨[], upd_same, Nat.le_refl _, fun s hs => by simp at hs⟩⟩ (fun i G _ h => SqT.of h.2.1) (fun i x Tm G hx hI nT => ?_) (fun G hI => ?_)
    have nDH : H Dd = none := by
      cases e : H Dd with
      | none => rfl
      | some o =>
        by_cases hT' : Dd ∈ T
        · obtain ⟨ps, q, _⟩ := g1.tb Dd hT'
          rw [q] at nD; cases nD
        · rw [g1.fr Dd o hT' e] at nD; cases nD
    · obtain ⟨g2, hp2, hK⟩ := hI
      rw [List.getElem?_map] at hx
      obtain ⟨s0, hs0, rfl⟩ := Option.map_eq_some_iff.mp hx
      obtain ⟨kvs, hkd, hkl, hkv⟩ := hK
      have dT : Dd ≠ Tm := fun y => by rw [← y, hkd] at nT; cases nT
      have hi : i < (Pr.namesOf h).length := (List.getElem?_eq_some_iff.mp hs0).1
      have k2 : (upd G Tm (.tup [.int (i : Nat), .str s0])) Dd = some (.dK kvs) := newK nT hkd
      refine ⟨Tm, _, rfl, SqT.of upd_same, rfl, _, _, rfl, _, _, rfl, rfl, rfl, _, rfl, _, rfl, kvs, .inr s0, rfl, k2, ?_, ?_⟩
      · rw [sizeLine_eq]; omega
      · exact ⟨go_put (g2.new nT) nDH k2 (fun ps y => by cases y), by rw [upd_ne pD]; exact newK nT hp2, num_put nd hs0 hkl hkv⟩
    · obtain ⟨g2, hp2, hK⟩ := hI
      rw [List.length_map] at hK
      obtain ⟨kvs, hkd, hkl, hkv⟩ := hK
      rw [List.take_length] at hkv
      refine ⟨Nat.zero_le _, fun L nL => ?_⟩
      have nLH : ∀ {G : Hp} {L : Addr}, Go T H G → G L = none → H L = none := fun {G L} g e => by
        cases q : H L with
        | none => rfl
        | some o =>
          by_cases hT' : L ∈ T
          · obtain ⟨ps, q2, _⟩ := g.tb L hT'
            rw [q2] at e; cases e
          · rw [g.fr L o hT' q] at e; cases e
      have LH := nLH g2 nL
      have dL : Dd ≠ L := fun y => by rw [y, nL] at hkd; cases hkd
      have g3 := g2.new (o := .lst []) nL
      have hL3 : (upd G L (.lst [])) L = some (.lst []) := upd_same
      have hD3 := newK (o := .lst []) nL hkd
      generalize upd G L (.lst []) = G3 at g3 hL3 hD3
      have st : ∀ (a : Addr) (xs : List V) (G : Hp), Go T H G → H a = some (.tup xs) → G a = some (.tup xs) := fun a xs G g e => tb.at g.fr e fun ps y => by cases y
      refine ⟨_, rfl, wp, rfl, ⟨_, SqT.of (st _ _ _ g3 hw)⟩, ?_⟩
      refine for_tup (K := K) (a := wp) (xs := ws.map V.str) (fun i σ G => ∃ o5 o6 xs, σ = [some (.ref a1), some (.ref wp), some (.ref Dd), some (.ref L), some (.int ((stAt (Pr.namesOf h) rows 0 (ws.take i) : Nat) : Int)), o5, o6, none, none] ∧ Go T H G ∧ G Dd = some (.dK kvs) ∧ G L = some (.lst xs) ∧ xs.length = i ∧ stAt (Pr.namesOf h) rows 0 (ws.take i) < rows.length ∧ ∀ (j : Nat) (v : V) (e : Str × Nat), xs[j]? = some v → (walk (Pr.namesOf h) rows 0 ws)[j]? = some e → IsTh G v (enT e))
        ⟨none, none, [], rfl, g3, hD3, hL3, rfl, D.one, fun j v e h1 => by simp at h1⟩ (fun i σ G _ hI => ?_) (fun i x σ G hx hI => ?_) (fun σ G hI => ?_)
      · obtain ⟨_, _, _, _, g4, _⟩ := hI
        exact SqT.of (st _ _ _ g4 hw)
      · obtain ⟨o5, o6, xs, rfl, g4, hD4, hL4, lx, hst, hxs⟩ := hI
        rw [List.getElem?_map] at hx
        obtain ⟨c, hc, rfl⟩ := Option.map_eq_some_iff.mp hx
        have hcn := hws c (List.mem_of_getElem? hc)
        obtain ⟨r, hr0, hr1, hr2, _⟩ := nxt_ok D hst hcn
        have hpG := Go.th tb g4 hp
        obtain ⟨a2, xs2, x2, e2, ha2, hx2, ht2⟩ := tup_at hpG (i := 2) (t := .tup (rows.map rowTh)) rfl
        obtain ⟨a3, xs3, x3, rfl, ha3, hx3, ht3⟩ := tup_at ht2 (i := stAt (Pr.namesOf h) rows 0 (ws.take i)) (t := rowTh r) (by rw [List.getElem?_map, hr0]; rfl)
        obtain ⟨a4, xs4, x4, rfl, ha4, hx4, ht4⟩ := tup_at ht3 (i := (Pr.namesOf h).idxOf c) (t := enT (nxt (Pr.namesOf h) rows (stAt (Pr.namesOf h) rows 0 (ws.take i)) c)) (by rw [List.getElem?_map, hr1]; rfl)
        have hget := DGet.k (a := Dd) (k := .inr c) hD4
        rw [hkv c hcn] at hget
        have hi : i < ws.length := (List.getElem?_eq_some_iff.mp hc).1
        refine ⟨_, rfl, _, _, _, _, e2, rfl, SqT.of ha2, hx2, _, rfl, a3, xs3, _, _, rfl, rfl, SqT.of ha3, hx3, _, rfl, _, rfl, Dd, _, rfl, hget, a4, xs4, _, _, rfl, rfl, SqT.of ha4, hx4, ?_⟩
        refine ⟨_, rfl, Or.inl ⟨rfl, _, SqL.of hL4⟩, _, rfl, L, xs, _, rfl, rfl, hL4, by rw [lx, sizeLine_eq]; omega, ?_⟩
        have s5 : Soft G (upd G L (.lst (xs ++ [x4]))) := Soft.list hL4
        obtain ⟨a5, xs5, x5, rfl, ha5, hx5, ht5⟩ := tup_at (s5.th ht4) (i := 1) (t := .int ((nxt (Pr.namesOf h) rows (stAt (Pr.namesOf h) rows 0 (ws.take i)) c).2 : Int)) rfl
        obtain rfl := isTh_int ht5
        refine ⟨_, rfl, a5, xs5, _, _, rfl, rfl, SqT.of ha5, hx5, ?_⟩
        refine ⟨_, _, _, by rw [st_snoc hc]; rfl, go_put g4 LH hL4 (fun ps y => by cases y), by rw [upd_ne dL]; exact hD4, upd_same, by rw [List.length_append, lx]; rfl, by rw [st_snoc hc]; exact hr2, fun j v e h1 h2 => ?_⟩
        by_cases hlt : j < xs.length
        · rw [List.getElem?_append_left hlt] at h1
          exact s5.th (hxs j v e h1 h2)
        · have hj' := (List.getElem?_eq_some_iff.mp h1).1
          rw [List.length_append, List.length_singleton] at hj'
          have : j = i := by omega
          subst this
          rw [List.getElem?_append_right (by omega), lx, Nat.sub_self] at h1
          cases h1
          rw [walk_get _ _ _ _ _ _ hc] at h2
          cases h2
          exact s5.th ht4
      · obtain ⟨o5, o6, xs, rfl, g4, hD4, hL4, lx, hst, hxs⟩ := hI
        exact ⟨_, rfl, k L xs G g4 hL4 LH ⟨by rw [lx, walk_len, List.length_map], hxs⟩⟩
end
end En

set_option Elab.async false
set_option linter.all false
set_option maxRecDepth 100000
set_option maxHeartbeats 2000000
/-! programs: need_program_and_word, answers, history, state_behind. -/
namespace An
open PySem PySem.Spec PyProof.Rows L2 Sx Rp Dw NdefX GxR Rw Th Kd Gx Nm Hs Pr Ps Lw Lh Lp Lq Ez En
/-- an error class without an init of its own -/
structure OwnE (K : PySem.W.Frag) (C : Addr) : Prop where
  ex : ∃ (bmB : List Value) (B newId initId : String), ExcBaseFacts B newId initId bmB ∧ PySem.W.excIn K C bmB newId = true
  kp : PySem.W.keepIn K (.ref C) = true
  sub : PySem.W.subIn K (.ref C) (.type "BaseException") = some true
  ty : PySem.W.typeIn K (.ref C) = some (.type "type")
theorem OwnE.mk' {X : Cx} {C : Addr} {x m : Str} {j : Nat} {p p2 pos : Pos} (O : OwnE X.K C) (gC : X.mg x = some (.ref C)) (hg : Gl X x) (hdb : (x == ("__debug__" : Str)) = false := by decide) : PMk X (.Call (.Name x p) [.Constant (.str m) j p2] [] pos) (fun _ H Q => Q (.ref C) none H) := by
  obtain ⟨bmB, B, newId, initId, F, q⟩ := O.ex
  exact pmk_own F q gC O.kp (raises_own O.sub O.ty) hg hdb
theorem FunT.okX {P : Program} {w : World} {K : PySem.W.Frag} {mg : Str → Option Value} {base : Heap} {x qual : Str} {st : Stmt} {f c : Addr} {fd : FuncData} {N ps : List Str} {k : Nat} {sp : Sp} (F : FunT K x qual st f c fd) (S : FnScope N ps (defScope st)) (len : ∀ vs H Q E, sp vs H Q E → vs.length = ps.length)
    (body : ∀ (A : Around) (outer : List Env) (s : Shared) (H : Hp) (vs : List V) (Q : VK) (E : XK), Room k (A.deeper (envOfC qual (defScope st) s.heap.objs.size f (.ref c))) → sp vs H Q E → ∃ t, PSs (cxOf (L2.CX P w) P w K mg base N qual (defScope st) f (.ref c) A outer s H E) (defBody st) t ∧ t { nx := fun _ H' => Q .non H', rt := Q } (start N vs) H) :
    FnOk P w K mg base (L2.CX P w) (k + 1) f fd ps sp := by
  obtain ⟨oc, od, kw, dc, md, an, ct, sl, rfl, lk, hc⟩ := F.ex
  exact fn_of lk hc S len fun A outer s H vs Q E r h => body A outer s H vs Q E r h
theorem scNe : FnScope ["program", "word"] ["program", "word"] (defScope sNeed) := ⟨rfl, rfl, rfl, by decide +kernel, rfl, by decide +kernel, by decide +kernel⟩
theorem scAs : FnScope ["program", "word"] ["program", "word"] (defScope sAnswers) := ⟨rfl, rfl, rfl, by decide +kernel, rfl, by decide +kernel, by decide +kernel⟩
theorem scHi : FnScope ["program", "word"] ["program", "word"] (defScope sHistory) := ⟨rfl, rfl, rfl, by decide +kernel, rfl, by decide +kernel, by decide +kernel⟩
theorem scSb : FnScope ["program", "word", "found"] ["program", "word"] (defScope sStateBehind) := ⟨rfl, rfl, rfl, by decide +kernel, rfl, by decide +kernel, by decide +kernel⟩
theorem prog_p {p : Th} (h : progT p = true) : toldT p "program" 3 = true ∧ houseT (Hs.nth 1 p) = true := by
  unfold progT at h
  simp only [Bool.and_eq_true] at h
  exact ⟨h.1, h.2.1⟩
section
variable {P : Program} {w : World} {K : PySem.W.Frag} {mg : Str → Option Value} {base : Heap} {T : List Addr}
def spNeed (T : List Addr) (CP CW : Addr) : Sp := fun vs H Q E => ∃ pv wv p t, vs = [pv, wv] ∧ IsTh H pv p ∧ IsTh H wv t ∧ Tabs T H ∧ ∀ H', Go T H H' →
  (progT p = false → E (.ref CP) none H') ∧ (progT p = true → wordT (Pr.namesOf (Hs.nth 1 p)) t = false → E (.ref CW) none H') ∧ (progT p = true → wordT (Pr.namesOf (Hs.nth 1 p)) t = true → Q .non H')
theorem ok_need {f g g2 CP CW : Addr} {fd gd gd2 : FuncData} (F : Fun K "need_program_and_word" "need_program_and_word" sNeed f fd)
    (OP : OwnE K CP) (mP : mg "BadProgram" = some (.ref CP)) (OW : OwnE K CW) (mW : mg "BadWord" = some (.ref CW)) {kk : Nat}
    (G : FnOk P w K mg base CX0 (kk + 1) g gd ["thing"] (spProg T)) (mG : mg "is_program" = some (.ref g)) (kG : PySem.W.keepIn K (.ref g) = true) (bG : Binds K gd ["thing"] [])
    (G2 : FnOk P w K mg base CX0 (kk + 1) g2 gd2 ["house", "thing"] (spWord T)) (mG2 : mg "is_word" = some (.ref g2)) (kG2 : PySem.W.keepIn K (.ref g2) = true) (bG2 : Binds K gd2 ["house", "thing"] []) : FnOk P w K mg base (L2.CX P w) (kk + 2) f fd ["program", "word"] (spNeed T CP CW) := by
  refine F.okX scNe (fun vs H Q E h => ?_) (fun cdv A outer s H vs Q E hr h => ?_)
  · obtain ⟨pv, wv, p, t, rfl, _⟩ := h
    rfl
  · obtain ⟨pv', wv, p, t, rfl, hp, ht, tb, q⟩ := h
    refine ⟨_, pss_cons (ps_if (pt_not (pt_val (pe_call G hr (by rfl) mG kG bG .nil pass0 (pa_cons (pv 0) pa_nil)))) (pss_one (ps_raise rfl (takes_of rfl rfl rfl rfl) (OP.mk' mP (by rfl)))) pss_nil)
      (pss_one (ps_if (pt_not (pt_val (pe_call G2 hr (by rfl) mG2 kG2 bG2 .nil pass0 (pa_cons (pe_ix ix_tup (pv 0) pe_int (fun _ _ => rfl)) (pa_cons (pv 1) pa_nil))))) (pss_one (ps_raise rfl (takes_of rfl rfl rfl rfl) (OW.mk' mW (by rfl)))) pss_nil)), ?_⟩
    refine ⟨_, rfl, pv', p, rfl, hp, tb, fun H1 g1 => ⟨_, rfl, ?_⟩⟩
    cases e : progT p with
    | false => exact iteT' rfl ((q H1 g1).1 e)
    | true =>
      refine iteF' rfl ?_
      obtain ⟨e1, e2⟩ := prog_p e
      obtain ⟨a, xs, x, rfl, ha, hx, hh⟩ := part1 (n := 3) (Go.th tb g1 hp) e1 (by decide)
      refine ⟨_, rfl, a, xs, _, _, rfl, rfl, SqT.of ha, hx, _, rfl, x, wv, _, t, rfl, hh, e2, Go.th tb g1 ht, g1.tb, fun H2 g2 => ⟨_, rfl, ?_⟩⟩
      have g3 := g1.trans g2
      cases e3 : wordT (Pr.namesOf (Hs.nth 1 p)) t with
      | false => exact iteT' rfl ((q H2 g3).2.1 e e3)
      | true => exact iteF' rfl ((q H2 g3).2.2 e e3)
/-- what a program and a word are passed for -/
def Asked (T : List Addr) (CP CW : Addr) (H : Hp) (E : XK) (pv wv : V) (ok : Th → List (List (Str × Nat)) → List Str → Prop) : Prop :=
  (∃ p t, IsTh H pv p ∧ IsTh H wv t ∧ ((progT p = false ∧ ∀ H', Go T H H' → E (.ref CP) none H') ∨ (progT p = true ∧ wordT (Pr.namesOf (Hs.nth 1 p)) t = false ∧ ∀ H', Go T H H' → E (.ref CW) none H'))) ∨
  ∃ h rows wp ws, wv = .ref wp ∧ IsTh H pv (pT h rows) ∧ ProgD h rows ∧ H wp = some (.tup ((ws : List Str).map V.str)) ∧ (∀ s ∈ ws, s ∈ Pr.namesOf h) ∧ ws.length ≤ 1000 ∧ ok h rows ws
theorem wordT_sT {ns ws : List Str} (h : ∀ s ∈ ws, s ∈ ns) : wordT ns (.tup (ws.map sT)) = true := by
  unfold wordT
  show (ws.map sT).all _ = true
  refine List.all_eq_true.mpr fun t ht => ?_
  obtain ⟨s, hs, rfl⟩ := List.mem_map.mp ht
  exact amongT_sT (h s hs)
theorem walk_ok {h : Th} {rows : List (List (Str × Nat))} (D : ProgD h rows) : ∀ (ws : List Str) (st : Nat), st < rows.length → (∀ s ∈ ws, s ∈ Pr.namesOf h) → (∀ e ∈ walk (Pr.namesOf h) rows st ws, Nam e.1 ∧ e.2 < rows.length) ∧ stAt (Pr.namesOf h) rows st ws < rows.length
  | [], st, hs, _ => ⟨fun e he => (by cases he), hs⟩
  | c :: cs, st, hs, hw => by
    obtain ⟨r, _, _, h2, ns, h3, h4⟩ := nxt_ok D hs (hw c (by simp))
    obtain ⟨i1, i2⟩ := walk_ok D cs (nxt (Pr.namesOf h) rows st c).2 h2 fun s hs => hw s (by simp [hs])
    refine ⟨fun e he => ?_, i2⟩
    rcases List.mem_cons.mp he with rfl | h'
    · exact ⟨(D.house.ans ns (List.mem_of_getElem? h3)).2.2 _ h4, h2⟩
    · exact i1 e h'
/-- what need asks, of what is asked -/
theorem asked_need {T : List Addr} {CP CW : Addr} {H : Hp} {E : XK} {pv wv : V} {ok : Th → List (List (Str × Nat)) → List Str → Prop} {Q : VK} (tb : Tabs T H) (h : Asked T CP CW H E pv wv ok) (k : ∀ h rows wp ws, wv = .ref wp → IsTh H pv (pT h rows) → ProgD h rows → H wp = some (.tup ((ws : List Str).map V.str)) → (∀ s ∈ ws, s ∈ Pr.namesOf h) → ws.length ≤ 1000 → ok h rows ws → ∀ H', Go T H H' → Q .non H') :
    spNeed T CP CW [pv, wv] H Q E := by
  rcases h with ⟨p, t, hp, ht, h⟩ | ⟨h, rows, wp, ws, rfl, hp, D, hw, hws, lw, o⟩
  · refine ⟨pv, wv, p, t, rfl, hp, ht, tb, fun H' g => ?_⟩
    rcases h with ⟨e, q⟩ | ⟨e, e2, q⟩
    · exact ⟨fun _ => q H' g, fun e' => (by rw [e] at e'; cases e'), fun e' => (by rw [e] at e'; cases e')⟩
    · exact ⟨fun e' => (by rw [e] at e'; cases e'), fun _ _ => q H' g, fun _ e' => (by rw [e2] at e'; cases e')⟩
  · have e1 := progT_D D
    have e2 : wordT (Pr.namesOf (Hs.nth 1 (pT h rows))) (.tup (ws.map sT)) = true := wordT_sT hws
    refine ⟨pv, .ref wp, pT h rows, .tup (ws.map sT), rfl, hp, isTh_names hw (fun s hs => D.house.nam s (hws s hs)) (by omega), tb, fun H' g => ⟨fun e' => (by rw [e1] at e'; cases e'), fun _ e' => (by rw [e2] at e'; cases e'), fun _ _ => k h rows wp ws rfl hp D hw hws lw o H' g⟩⟩
/-- tuple(..) over a list -/
theorem tup_list {a : Addr} {xs : List V} {g : TG} {te : TE} {R : Addr → Hp → List V → Prop} {σ0 : L2.St} {H2 : Hp} (Sv : L2.St → Prop) (Iv : Nat → List V → Hp → Prop) (s0 : Sv σ0) (h0 : Iv 0 [] H2) (ha : ∀ i ys H, Iv i ys H → SqL K H a xs)
    (hs : ∀ i x ys σ H, xs[i]? = some x → Sv σ → Iv i ys H → g x σ H fun σ2 H3 => te σ2 H3 fun v H4 => ys.length < sizeLine ∧ (Sv σ2 ∧ Iv (i + 1) (ys ++ [v]) H4)) (he : ∀ ys H, Iv xs.length ys H → ys.length ≤ sizeLine ∧ ∀ p, H p = none → R p H ys) :
    ∃ (n0 : Nat) (Wk : Nat → List V → L2.St → Hp → Prop), Wk 0 [] σ0 H2 ∧ ∀ i ys σ' H', i ≤ n0 → Wk i ys σ' H' → ((Itl K a).stop i H' ∧ ys.length ≤ sizeLine ∧ ∀ p, H' p = none → R p H' ys) ∨
      ((Itl K a).go i H' ∧ i < n0 ∧ ∀ x H3, (Itl K a).yld i H' x H3 → g x σ' H3 fun σ2 H4 => te σ2 H4 fun v H5 => ys.length < sizeLine ∧ Wk (i + 1) (ys ++ [v]) σ2 H5) := by
  refine ⟨xs.length, fun i ys σ H => Sv σ ∧ Iv i ys H, ⟨s0, h0⟩, ?_⟩
  rintro i ys σ H hi ⟨sv, iv⟩
  have hq := ha i ys H iv
  by_cases hlt : i < xs.length
  · refine .inr ⟨⟨xs, xs[i], hq, by simp [hlt]⟩, hlt, fun x H3 y => ?_⟩
    obtain ⟨rfl, y⟩ := y
    exact hs i x ys σ _ (y xs hq) sv iv
  · have e : i = xs.length := by omega
    subst e
    exact .inl ⟨⟨xs, hq, Nat.le_refl _⟩, he ys H iv⟩
/-- tuple(..) over zip of a tuple and a list -/
theorem tup_zipM {a b : Addr} {xs zs : List V} {g : TG} {te : TE} {R : Addr → Hp → List V → Prop} {σ0 : L2.St} {H2 : Hp} (hl : xs.length = zs.length) (Sv : L2.St → Prop) (Iv : Nat → List V → Hp → Prop) (s0 : Sv σ0) (h0 : Iv 0 [] H2) (ha : ∀ i ys H, Iv i ys H → SqT K H a xs ∧ SqL K H b zs)
    (hs : ∀ i x z T ys σ H, xs[i]? = some x → zs[i]? = some z → Sv σ → Iv i ys H → H T = none → g (.ref T) σ (upd H T (.tup [x, z])) fun σ2 H3 => te σ2 H3 fun v H4 => ys.length < sizeLine ∧ (Sv σ2 ∧ Iv (i + 1) (ys ++ [v]) H4)) (he : ∀ ys H, Iv xs.length ys H → ys.length ≤ sizeLine ∧ ∀ p, H p = none → R p H ys) :
    ∃ (n0 : Nat) (Wk : Nat → List V → L2.St → Hp → Prop), Wk 0 [] σ0 H2 ∧ ∀ i ys σ' H', i ≤ n0 → Wk i ys σ' H' → ((ItzM K a b).stop i H' ∧ ys.length ≤ sizeLine ∧ ∀ p, H' p = none → R p H' ys) ∨
      ((ItzM K a b).go i H' ∧ i < n0 ∧ ∀ x H3, (ItzM K a b).yld i H' x H3 → g x σ' H3 fun σ2 H4 => te σ2 H4 fun v H5 => ys.length < sizeLine ∧ Wk (i + 1) (ys ++ [v]) σ2 H5) := by
  refine ⟨xs.length, fun i ys σ H => Sv σ ∧ Iv i ys H, ⟨s0, h0⟩, ?_⟩
  rintro i ys σ H hi ⟨sv, iv⟩
  obtain ⟨hq, hq2⟩ := ha i ys H iv
  by_cases hlt : i < xs.length
  · have hlt2 : i < zs.length := by omega
    refine .inr ⟨⟨xs, zs, xs[i], zs[i], hq, hq2, by simp [hlt], by simp [hlt2]⟩, hlt, fun x H3 y => ?_⟩
    obtain ⟨T, x', y', rfl, hT, rfl, f1, f2⟩ := y
    exact hs i x' y' T ys σ H (f1 xs hq) (f2 zs hq2) sv iv hT
  · have e : i = xs.length := by omega
    subst e
    exact .inl ⟨⟨xs, zs, hq, hq2, hl, rfl⟩, he ys H iv⟩
def ansTh (es : List (Str × Nat)) : Th := .tup (es.map fun e => sT e.1)
def hisTh (ws : List Str) (es : List (Str × Nat)) : Th := .tup ((ws.zip es).map fun p => .tup [sT p.1, sT p.2.1])
def spAns (T : List Addr) (CP CW : Addr) : Sp := fun vs H Q E => ∃ pv wv, vs = [pv, wv] ∧ Tabs T H ∧ Asked T CP CW H E pv wv fun h rows ws => ∀ v H', Go T H H' → IsTh H' v (ansTh (walk (Pr.namesOf h) rows 0 ws)) → Q v H'
theorem ok_answers {f c Tn g g2 CP CW : Addr} {fd gd gd2 : FuncData} (F : FunT K "answers" "answers" sAnswers f c fd) (mt : mg "tuple" = none) (TB : TabB base mg c Tn) (hT : Tn ∈ T) {kk : Nat}
    (G : FnOk P w K mg base (L2.CX P w) (kk + 3) g gd ["program", "word"] (spNeed T CP CW)) (mG : mg "need_program_and_word" = some (.ref g)) (kG : PySem.W.keepIn K (.ref g) = true) (bG : Binds K gd ["program", "word"] [])
    (G2 : FnOk P w K mg base CX0 3 g2 gd2 ["program", "word"] (spEntries T)) (mG2 : mg "entries_of" = some (.ref g2)) (kG2 : PySem.W.keepIn K (.ref g2) = true) (bG2 : Binds K gd2 ["program", "word"] []) : FnOk P w K mg base (L2.CX P w) (kk + 4) f fd ["program", "word"] (spAns T CP CW) := by
  refine FunT.okX F scAs (fun vs H Q E h => ?_) (fun A outer s H vs Q E hr h => ?_)
  · obtain ⟨pv, wv, rfl, _⟩ := h
    rfl
  · obtain ⟨pv', wv, rfl, tb, q⟩ := h
    refine ⟨_, pss_cons (ps_expr (pe_callS (E := WE fun cls d _ H' => E cls d H') G hr (by rfl) mG kG bG (passAt (takes_of rfl rfl rfl rfl)) (pa_cons (pv 0) (pa_cons (pv 1) pa_nil))))
      (pss_one (ps_ret (pe_tupG (N' := ["pair"]) (cap := [none]) (k := 0) (te := tOp (rIxT K) (tVar 0) (tC (.int 0))) (hr.mono (by omega)) (by rfl) mt (by decide +kernel) TB rfl (gsc_by (N := ["program", "word"]) (sc := defScope sAnswers) (by decide +kernel)) (pi_list (pe_call G2 (hr.mono (by omega)) (by rfl) mG2 kG2 bG2 .nil pass0 (pa_cons (pv 0) (pa_cons (pv 1) pa_nil)))) (fun _ _ _ _ _ _ _ => pg_name (i := 0) (show (["pair"] : List Str).Nodup by decide) rfl (Or.inl rfl)) (fun _ _ _ _ _ _ _ _ => pe_ix ix_tup (pv 0) pe_int (fun _ _ => rfl)) (fun _ => rfl)))), ?_⟩
    refine ⟨_, rfl, _, rfl, ?_⟩
    unfold tNil
    refine asked_need tb q fun h rows wp ws e hp D hw hws lw k H1 g1 => ?_
    subst e
    have hw1 := tb.at g1.fr hw fun ps y => by cases y
    refine ⟨_, rfl, _, rfl, _, h, rows, wp, ws, rfl, Go.th tb g1 hp, D, hw1, hws, lw, g1.tb, fun L xs H2 g2 hL nL hE => ?_⟩
    have g12 := g1.trans g2
    refine ⟨L, rfl, ⟨_, SqL.of hL⟩, g2.tb _ hT, fun H3 h3 => ?_⟩
    have g3 := (Go.refl g2.tb).tab hT h3
    have wk := walk_ok D ws 0 D.one hws
    have lE := hE.1
    have lW := walk_len (Pr.namesOf h) rows ws 0
    refine tup_list (xs := xs) (fun σ => ∃ o, σ = [o]) (fun i ys G' => Go T H2 G' ∧ ys.length = i ∧ ∀ (j : Nat) (v : V) (e : Str × Nat), ys[j]? = some v → (walk (Pr.namesOf h) rows 0 ws)[j]? = some e → v = .str e.1) ⟨none, rfl⟩ ⟨g3, rfl, fun j v e h1 => by simp at h1⟩ (fun i ys G' h => SqL.of (g2.tb.at h.1.fr hL fun ps y => by cases y)) (fun i x ys σ G' hx hσ h' => ?_) (fun ys G' h' => ?_)
    · obtain ⟨o, rfl⟩ := hσ
      obtain ⟨g4, ly, hy⟩ := h'
      have hi : i < xs.length := (List.getElem?_eq_some_iff.mp hx).1
      obtain ⟨e, he⟩ : ∃ e, (walk (Pr.namesOf h) rows 0 ws)[i]? = some e := ⟨_, List.getElem?_eq_getElem (by omega)⟩
      obtain ⟨a2, xs2, x2, rfl, ha2, hx2, h2'⟩ := tup_at (Go.th g2.tb g4 (hE.2 i x e hx he)) (i := 0) (t := sT e.1) rfl
      obtain rfl := isTh_sT h2'
      refine ⟨_, rfl, a2, xs2, _, _, rfl, rfl, SqT.of ha2, hx2, by rw [sizeLine_eq]; omega, ⟨_, rfl⟩, g4, by simp [ly], fun j v e' h3 h4 => ?_⟩
      by_cases hj : j < ys.length
      · rw [List.getElem?_append_left hj] at h3
        exact hy j v e' h3 h4
      · have := (List.getElem?_eq_some_iff.mp h3).1
        rw [List.length_append, List.length_singleton] at this
        have : j = i := by omega
        subst this
        rw [List.getElem?_append_right (by omega), ly, Nat.sub_self] at h3
        cases h3
        rw [he] at h4; cases h4; rfl
    · obtain ⟨g4, ly, hy⟩ := h'
      refine ⟨by rw [sizeLine_eq]; omega, fun p np => k _ _ (g12.trans (g4.new np)) ?_⟩
      refine .tup p ys _ upd_same (by rw [List.length_map]; omega) (by omega) fun j v t h3 h4 => ?_
      rw [List.getElem?_map] at h4
      obtain ⟨e, he, rfl⟩ := Option.map_eq_some_iff.mp h4
      rw [hy j v e h3 he]
      exact isTh_str (wk.1 e (List.mem_of_getElem? he)).1
end
end An

set_option Elab.async false
set_option linter.all false
set_option maxRecDepth 100000
set_option maxHeartbeats 2000000
/-! programs: history, state_behind. -/
namespace Ah
open PySem PySem.Spec PyProof.Rows L2 Sx Rp Dw NdefX GxR Rw Th Kd Gx Nm Hs Pr Ps Lw Lh Lp Lq Ez En An
section
variable {P : Program} {w : World} {K : PySem.W.Frag} {mg : Str → Option Value} {base : Heap} {T : List Addr}
def spHis (T : List Addr) (CP CW : Addr) : Sp := fun vs H Q E => ∃ pv wv, vs = [pv, wv] ∧ Tabs T H ∧ Asked T CP CW H E pv wv fun h rows ws => ∀ v H', Go T H H' → IsTh H' v (hisTh ws (walk (Pr.namesOf h) rows 0 ws)) → Q v H'
theorem ok_history {f c Tn g g2 CP CW : Addr} {fd gd gd2 : FuncData} (F : FunT K "history" "history" sHistory f c fd) (mt : mg "tuple" = none) (mz : mg "zip" = none) (TB : TabB base mg c Tn) (hT : Tn ∈ T) {kk : Nat}
    (G : FnOk P w K mg base (L2.CX P w) (kk + 3) g gd ["program", "word"] (spNeed T CP CW)) (mG : mg "need_program_and_word" = some (.ref g)) (kG : PySem.W.keepIn K (.ref g) = true) (bG : Binds K gd ["program", "word"] [])
    (G2 : FnOk P w K mg base CX0 3 g2 gd2 ["program", "word"] (spEntries T)) (mG2 : mg "entries_of" = some (.ref g2)) (kG2 : PySem.W.keepIn K (.ref g2) = true) (bG2 : Binds K gd2 ["program", "word"] []) : FnOk P w K mg base (L2.CX P w) (kk + 4) f fd ["program", "word"] (spHis T CP CW) := by
  refine FunT.okX F scHi (fun vs H Q E h => ?_) (fun A outer s H vs Q E hr h => ?_)
  · obtain ⟨pv, wv, rfl, _⟩ := h
    rfl
  · obtain ⟨pv', wv, rfl, tb, q⟩ := h
    refine ⟨_, pss_cons (ps_expr (pe_callS (E := WE fun cls d _ H' => E cls d H') G hr (by rfl) mG kG bG (passAt (takes_of rfl rfl rfl rfl)) (pa_cons (pv 0) (pa_cons (pv 1) pa_nil))))
      (pss_one (ps_ret (pe_tupG (N' := ["call", "pair"]) (cap := [none, none]) (k := 0) (g := gTup K 2 (gCons (gName 0) (gCons (gName 1) gNil))) (te := tTup (tCons (tVar 0) (tCons (tOp (rIxT K) (tVar 1) (tC (.int 0))) tNil))) (hr.mono (by omega)) (by rfl) mt (by decide +kernel) TB rfl (gsc_by (N := ["program", "word"]) (sc := defScope sHistory) (by decide +kernel)) (pi_zipM (by rfl) mz (pa_cons (pv 1) (pa_cons (pe_call G2 (hr.mono (by omega)) (by rfl) mG2 kG2 bG2 .nil pass0 (pa_cons (pv 0) (pa_cons (pv 1) pa_nil))) pa_nil)))
        (fun _ _ _ _ _ _ _ => pg_tup rfl (pgs_cons (pg_name (i := 0) (show (["call", "pair"] : List Str).Nodup by decide) rfl (Or.inl rfl) (Or.inr rfl)) (pgs_cons (pg_name (i := 1) (show (["call", "pair"] : List Str).Nodup by decide) rfl (Or.inl rfl) (Or.inr rfl)) pgs_nil))) (fun _ _ _ _ _ _ _ _ => pe_tup (pa_cons (pv 0) (pa_cons (pe_ix ix_tup (pv 1) pe_int (fun _ _ => rfl)) pa_nil))) (fun _ => rfl)))), ?_⟩
    refine ⟨_, rfl, _, rfl, ?_⟩
    unfold tNil
    refine asked_need tb q fun h rows wp ws e hp D hw hws lw k H1 g1 => ?_
    subst e
    have hw1 := tb.at g1.fr hw fun ps y => by cases y
    refine ⟨_, rfl, _, rfl, _, rfl, _, h, rows, wp, ws, rfl, Go.th tb g1 hp, D, hw1, hws, lw, g1.tb, fun L xs H2 g2 hL nL hE => ?_⟩
    have g12 := g1.trans g2
    have hw2 := g1.tb.at g2.fr hw1 fun ps y => by cases y
    refine ⟨wp, L, _, _, rfl, SqT.of hw2, SqL.of hL, g2.tb _ hT, fun H3 h3 => ?_⟩
    have g3 := (Go.refl g2.tb).tab hT h3
    have wk := walk_ok D ws 0 D.one hws
    have lE := hE.1
    have lW := walk_len (Pr.namesOf h) rows ws 0
    refine tup_zipM (xs := ws.map V.str) (zs := xs) (by rw [List.length_map]; omega) (fun σ => ∃ o o2, σ = [o, o2]) (fun i ys G' => Go T H2 G' ∧ ys.length = i ∧ ∀ (j : Nat) (v : V) (c : Str) (e : Str × Nat), ys[j]? = some v → ws[j]? = some c → (walk (Pr.namesOf h) rows 0 ws)[j]? = some e → IsTh G' v (.tup [sT c, sT e.1])) ⟨none, none, rfl⟩ ⟨g3, rfl, fun j v c e h1 => by simp at h1⟩ (fun i ys G' h => ⟨SqT.of (g2.tb.at h.1.fr hw2 fun ps y => by cases y), SqL.of (g2.tb.at h.1.fr hL fun ps y => by cases y)⟩) (fun i x z Tm ys σ G' hx hz hσ h' nT => ?_) (fun ys G' h' => ?_)
    · obtain ⟨o, o2, rfl⟩ := hσ
      obtain ⟨g4, ly, hy⟩ := h'
      rw [List.getElem?_map] at hx
      obtain ⟨c, hc, rfl⟩ := Option.map_eq_some_iff.mp hx
      have hi : i < ws.length := (List.getElem?_eq_some_iff.mp hc).1
      obtain ⟨e, he⟩ : ∃ e, (walk (Pr.namesOf h) rows 0 ws)[i]? = some e := ⟨_, List.getElem?_eq_getElem (by omega)⟩
      have g5 : Go T H2 (upd G' Tm (.tup [.str c, z])) := g4.new nT
      have k5 : ∀ b o, G' b = some o → (upd G' Tm (.tup [.str c, z])) b = some o := fun b o e => by rw [upd_ne (fun y => by rw [y, nT] at e; cases e)]; exact e
      obtain ⟨a2, xs2, x2, rfl, ha2, hx2, h2'⟩ := tup_at (Go.th g2.tb g5 (hE.2 i z e hz he)) (i := 0) (t := sT e.1) rfl
      obtain rfl := isTh_sT h2'
      have s5 := Soft.keep k5
      refine ⟨Tm, _, rfl, SqT.of upd_same, rfl, _, _, rfl, _, _, rfl, rfl, ?_⟩
      refine ⟨_, rfl, _, rfl, a2, xs2, _, _, rfl, rfl, SqT.of ha2, hx2, (show 2 ≤ sizeLine by decide), fun p np => ?_⟩
      have g6 := g5.new (o := .tup [.str c, .str e.1]) np
      have s6 : Soft (upd G' Tm (.tup [.str c, .ref a2])) (upd (upd G' Tm (.tup [.str c, .ref a2])) p (.tup [.str c, .str e.1])) := Soft.keep fun b o e => by rw [upd_ne (fun y => by rw [y, np] at e; cases e)]; exact e
      refine ⟨by rw [sizeLine_eq]; omega, ⟨_, _, rfl⟩, g6, by simp [ly], fun j v c' e' h3 h4 h5 => ?_⟩
      by_cases hj : j < ys.length
      · rw [List.getElem?_append_left hj] at h3
        exact s6.th (s5.th (hy j v c' e' h3 h4 h5))
      · have := (List.getElem?_eq_some_iff.mp h3).1
        rw [List.length_append, List.length_singleton] at this
        have : j = i := by omega
        subst this
        rw [List.getElem?_append_right (by omega), ly, Nat.sub_self] at h3
        cases h3
        rw [hc] at h4; cases h4
        rw [he] at h5; cases h5
        refine .tup p _ _ upd_same rfl (by show 2 ≤ 100000; decide) fun j' v t h8 h9 => ?_
        match j', h8, h9 with
        | 0, h8, h9 => cases h8; cases h9; exact isTh_str (D.house.nam c (hws c (List.mem_of_getElem? hc)))
        | 1, h8, h9 => cases h8; cases h9; exact isTh_str (wk.1 e (List.mem_of_getElem? he)).1
        | j' + 2, h8, h9 => simp at h8
    · obtain ⟨g4, ly, hy⟩ := h'
      rw [List.length_map] at ly
      refine ⟨by rw [sizeLine_eq]; omega, fun p np => k _ _ (g12.trans (g4.new np)) ?_⟩
      refine .tup p ys _ upd_same (by rw [List.length_map, List.length_zip, lW, Nat.min_self]; exact ly) (by omega) fun j v t h3 h4 => ?_
      rw [List.getElem?_map] at h4
      obtain ⟨ce, he, rfl⟩ := Option.map_eq_some_iff.mp h4
      rw [List.getElem?_zip_eq_some] at he
      exact (Soft.keep fun b o e => by rw [upd_ne (fun y => by rw [y, np] at e; cases e)]; exact e).th (hy j v ce.1 ce.2 h3 he.1 he.2)
def spSb (T : List Addr) (CP CW : Addr) : Sp := fun vs H Q E => ∃ pv wv, vs = [pv, wv] ∧ Tabs T H ∧ Asked T CP CW H E pv wv fun h rows ws => ∀ H', Go T H H' → Q (.int ((stAt (Pr.namesOf h) rows 0 ws : Nat) : Int)) H'
theorem ok_behind {f g g2 CP CW : Addr} {fd gd gd2 : FuncData} (F : Fun K "state_behind" "state_behind" sStateBehind f fd) {kk : Nat}
    (G : FnOk P w K mg base (L2.CX P w) (kk + 3) g gd ["program", "word"] (spNeed T CP CW)) (mG : mg "need_program_and_word" = some (.ref g)) (kG : PySem.W.keepIn K (.ref g) = true) (bG : Binds K gd ["program", "word"] [])
    (G2 : FnOk P w K mg base CX0 3 g2 gd2 ["program", "word"] (spEntries T)) (mG2 : mg "entries_of" = some (.ref g2)) (kG2 : PySem.W.keepIn K (.ref g2) = true) (bG2 : Binds K gd2 ["program", "word"] []) : FnOk P w K mg base (L2.CX P w) (kk + 4) f fd ["program", "word"] (spSb T CP CW) := by
  refine F.okX scSb (fun vs H Q E h => ?_) (fun cdv A outer s H vs Q E hr h => ?_)
  · obtain ⟨pv, wv, rfl, _⟩ := h
    rfl
  · obtain ⟨pv', wv, rfl, tb, q⟩ := h
    refine ⟨_, pss_cons (ps_expr (pe_callS (E := WE fun cls d _ H' => E cls d H') G hr (by rfl) mG kG bG (passAt (takes_of rfl rfl rfl rfl)) (pa_cons (pv 0) (pa_cons (pv 1) pa_nil))))
      (pss_cons (ps_set (i := 2) scSb.nd rfl (Or.inl rfl) (pe_call G2 (hr.mono (by omega)) (by rfl) mG2 kG2 bG2 .nil pass0 (pa_cons (pv 0) (pa_cons (pv 1) pa_nil))))
      (pss_one (ps_ret (pe_ifExp (pt_truth (pv 2) (fun _ => rfl)) (pe_ix ix_tup (pe_ix ix_list (pv 2) (pe_un un_neg pe_int) (fun _ _ => rfl)) pe_int (fun _ _ => rfl)) pe_int)))), ?_⟩
    refine ⟨_, rfl, _, rfl, ?_⟩
    unfold tNil
    refine asked_need tb q fun h rows wp ws e hp D hw hws lw k H1 g1 => ?_
    subst e
    have hw1 := tb.at g1.fr hw fun ps y => by cases y
    refine ⟨_, rfl, _, rfl, _, h, rows, wp, ws, rfl, Go.th tb g1 hp, D, hw1, hws, lw, g1.tb, fun L xs H2 g2 hL nL hE => ?_⟩
    have g12 := g1.trans g2
    have lW := walk_len (Pr.namesOf h) rows ws 0
    have lE := hE.1
    refine ⟨_, rfl, _, .inl ⟨xs, SqL.of hL, rfl⟩, ?_⟩
    cases hx : xs with
    | nil =>
      have : ws = [] := by
        rw [hx] at lE
        exact List.length_eq_zero_iff.mp (by rw [← lW, ← lE]; rfl)
      subst this
      exact iteF' rfl (k H2 g12)
    | cons x0 xr =>
      refine iteT' rfl ?_
      have hn : xs ≠ [] := by rw [hx]; simp
      have e1 := List.dropLast_concat_getLast hn
      have lpos : 0 < xs.length := List.length_pos_iff.mpr hn
      have hlast : atI xs (-1) = some (xs.getLast hn) := by
        have := atI_last xs.dropLast (xs.getLast hn)
        rw [e1] at this
        exact this
      have hg : xs[xs.length - 1]? = some (xs.getLast hn) := by rw [List.getLast_eq_getElem hn]; exact List.getElem?_eq_getElem (by omega)
      obtain ⟨c, hc⟩ : ∃ c, ws[xs.length - 1]? = some c := ⟨_, List.getElem?_eq_getElem (by omega)⟩
      have hw' := walk_get (Pr.namesOf h) rows ws 0 _ c hc
      obtain ⟨a2, xs2, x2, ex, ha2, hx2, h2'⟩ := tup_at (hE.2 _ _ _ hg hw') (i := 1) (t := .int ((nxt (Pr.namesOf h) rows (stAt (Pr.namesOf h) rows 0 (ws.take (xs.length - 1))) c).2 : Int)) rfl
      obtain rfl := isTh_int h2'
      have e3 : ws.take (xs.length - 1 + 1) = ws := List.take_of_length_le (by omega)
      have e2 := st_snoc (ns := Pr.namesOf h) (rows := rows) (st := 0) hc
      rw [e3] at e2
      rw [← e2] at hx2
      exact ⟨_, rfl, _, rfl, L, xs, _, _, rfl, rfl, SqL.of hL, hlast, a2, xs2, _, _, ex, rfl, SqT.of ha2, hx2, k H2 g12⟩
end
end Ah

set_option Elab.async false
set_option linter.all false
set_option maxRecDepth 100000
set_option maxHeartbeats 2000000
/-! the law's own: answered, state. -/
namespace La
open PySem PySem.Spec PyProof.Rows L2 Sx Rp Dw NdefX GxR Rw Th Kd Gx Nm Hs Pr Ps Lw Lh Lp Lq Ez En An Ah
abbrev sAnsd : Stmt := topS 41
abbrev sState : Stmt := topS 54
/-- all that stood is kept -/
def Kp (H H' : Hp) : Prop := ∀ b o, H b = some o → H' b = some o
theorem Kp.refl {H : Hp} : Kp H H := fun _ _ e => e
theorem Kp.trans {H1 H2 H3 : Hp} (a : Kp H1 H2) (b : Kp H2 H3) : Kp H1 H3 := fun x o e => b x o (a x o e)
theorem Kp.new {H G : Hp} {p : Addr} {o : HO} (k : Kp H G) (n : G p = none) : Kp H (upd G p o) := fun b u e => by rw [upd_ne (fun y => by rw [← y, k b u e] at n; cases n)]; exact k b u e
theorem Kp.non {H G : Hp} {p : Addr} (k : Kp H G) (n : G p = none) : H p = none := by
  cases e : H p with
  | none => rfl
  | some o => rw [k p o e] at n; cases n
theorem Kp.put {H G : Hp} {p : Addr} {o : HO} (k : Kp H G) (n : H p = none) : Kp H (upd G p o) := fun b u e => by rw [upd_ne (fun y => by rw [y, n] at e; cases e)]; exact k b u e
theorem Kp.th {H G : Hp} (k : Kp H G) {v : V} {t : Th} (h : IsTh H v t) : IsTh G v t := (Soft.keep k).th h
theorem scAd : FnScope ["program", "word", "state", "found", "calls", "call", "answer"] ["program", "word"] (defScope sAnsd) := ⟨rfl, rfl, rfl, by decide +kernel, rfl, by decide +kernel, by decide +kernel⟩
theorem scSt : FnScope ["program", "word", "state", "call"] ["program", "word"] (defScope sState) := ⟨rfl, rfl, rfl, by decide +kernel, rfl, by decide +kernel, by decide +kernel⟩
theorem idx_get {ns : List Str} {c : Str} (h : c ∈ ns) : (ns.map V.str)[ns.idxOf c]? = some (.str c) := by
  have hi := List.idxOf_lt_length_iff.mpr h
  rw [List.getElem?_map, List.getElem?_eq_getElem hi, List.getElem_idxOf hi]; rfl
theorem idx_no {ns : List Str} {c : Str} (m : Nat) (z : V) (hm : m < ns.idxOf c) (h : (ns.map V.str)[m]? = some z) : eqV z (.str c) = false := by
  rw [List.getElem?_map] at h
  obtain ⟨s, hs, rfl⟩ := Option.map_eq_some_iff.mp h
  have := List.not_of_lt_findIdx (p := (· == c)) (xs := ns) hm
  obtain ⟨h1, h2⟩ := List.getElem?_eq_some_iff.mp hs
  rw [h2] at this
  show (s == c) = false
  simpa using this
theorem strs_flat (ns : List Str) : (ns.map V.str).all flatV = true := List.all_eq_true.mpr fun x hx => by
  obtain ⟨s, _, rfl⟩ := List.mem_map.mp hx
  rfl
theorem eq_str (c : Str) : eqV (.str c) (.str c) = true := by show (c == c) = true; simp
section
variable {P : Program} {w : World} {K : PySem.W.Frag} {mg : Str → Option Value} {base : Heap} {T : List Addr}
def spAnsd : Sp := fun vs H Q _ => ∃ pv h rows wp ws, vs = [pv, .ref wp] ∧ IsTh H pv (pT h rows) ∧ ProgD h rows ∧ H wp = some (.tup ((ws : List Str).map V.str)) ∧ (∀ s ∈ ws, s ∈ Pr.namesOf h) ∧ ws.length ≤ 1000 ∧
  ∀ v H', Kp H H' → IsTh H' v (hisTh ws (walk (Pr.namesOf h) rows 0 ws)) → Q v H'
theorem ok_ansd {f g : Addr} {fd gd : FuncData} (F : Fun K "_law_answered" "_law_answered" sAnsd f fd) (mt : mg "tuple" = none)
    (G : FnOk P w K mg base CX0 1 g gd ["house"] spCalls) (mG : mg "_law_calls" = some (.ref g)) (kG : PySem.W.keepIn K (.ref g) = true) (bG : Binds K gd ["house"] []) : FnOk P w K mg base CX0 2 f fd ["program", "word"] spAnsd := by
  refine F.ok scAd (fun vs H Q E h => ?_) (fun cdv A outer s H vs Q E hr h => ?_)
  · obtain ⟨pv, h, rows, wp, ws, rfl, _⟩ := h
    rfl
  · obtain ⟨pv', h, rows, wp, ws, rfl, hp, D, hw, hws, lw, k⟩ := h
    refine ⟨_, pss_cons (ps_par3 (by rfl) scAd.nd (i := 2) (j := 3) (l := 4) rfl rfl rfl (by decide) (by decide) (by decide) rfl rfl rfl (pa_cons pe_int (pa_cons (pe_lst pa_nil) (pa_cons (pe_call G hr rfl mG kG bG .nil pass0 (pa_cons (pe_ix ix_tup (pv 0) pe_int (fun _ _ => rfl)) pa_nil)) pa_nil))) (by rfl))
      (pss_cons (ps_for PassesOwn.never rfl (pi_tup (pv 1)) (pg_name (i := 5) scAd.nd rfl (Or.inl rfl))
        (pss_cons (ps_asg (pe_ix ix_tup (pe_ix ix_tup (pe_ix ix_tup (pv 0) pe_int (fun _ _ => rfl)) (pv 2) (fun _ _ => rfl)) (pe_bm PySem.F.plainAttrs_list PySem.F.slot_list_index PySem.F.type_list_index mt_index (pv 4) (pa_cons (pv 5) pa_nil)) (fun _ _ => rfl)) (pg_tup rfl (pgs_cons (pg_name (i := 6) scAd.nd rfl (Or.inl rfl)) (pgs_cons (pg_name (i := 2) scAd.nd rfl (Or.inl rfl)) pgs_nil))))
        (pss_one (ps_expr (pe_bm PySem.F.plainAttrs_list PySem.F.slot_list_append PySem.F.type_list_append mt_append (pv 3) (pa_cons (pe_tup (pa_cons (pv 5) (pa_cons (pv 6) pa_nil))) pa_nil))))))
      (pss_one (ps_ret (pe_callTy call_tuple_of (by rfl) mt (by decide +kernel) (pa_cons (pv 3) pa_nil))))), ?_⟩
    have ho := D.house.ok
    obtain ⟨a1, xs1, hv, rfl, ha1, hx1, hh⟩ := tup_at hp (i := 1) (t := h) rfl
    refine ⟨Nat.zero_le _, fun L nL => ⟨_, rfl, a1, xs1, _, _, rfl, rfl, ?_, hx1, hv, h, rfl, (Kp.refl.new nL).th hh, ho, fun Lc G1 k1 nLc hLc => ?_⟩⟩
    · exact SqT.of (Kp.refl.new nL _ _ ha1)
    have k0 : Kp H G1 := (Kp.refl.new nL).trans k1
    have hL1 : G1 L = some (.lst []) := k1 _ _ upd_same
    have LLc : L ≠ Lc := fun y => by rw [← y, upd_same] at nLc; cases nLc
    have nLcH := (Kp.refl.new (o := .lst []) nL).non nLc
    refine ⟨_, _, _, rfl, ?_⟩
    refine ⟨_, rfl, wp, rfl, ⟨_, SqT.of (k0 _ _ hw)⟩, ?_⟩
    refine for_tup (K := K) (a := wp) (xs := ws.map V.str) (fun i σ G => ∃ o5 o6 xs, σ = [some (.ref a1), some (.ref wp), some (.int ((stAt (Pr.namesOf h) rows 0 (ws.take i) : Nat) : Int)), some (.ref L), some (.ref Lc), o5, o6] ∧ Kp H G ∧ G Lc = some (.lst ((Pr.namesOf h).map V.str)) ∧ G L = some (.lst xs) ∧ xs.length = i ∧ stAt (Pr.namesOf h) rows 0 (ws.take i) < rows.length ∧ ∀ (j : Nat) (v : V) (c : Str) (e : Str × Nat), xs[j]? = some v → ws[j]? = some c → (walk (Pr.namesOf h) rows 0 ws)[j]? = some e → IsTh G v (.tup [sT c, sT e.1]))
      ⟨none, none, [], rfl, k0, hLc, hL1, rfl, D.one, fun j v c e h1 => by simp at h1⟩ (fun i σ G _ hI => ?_) (fun i x σ G hx hI => ?_) (fun σ G hI => ?_)
    · obtain ⟨_, _, _, _, g4, _⟩ := hI
      exact SqT.of (g4 _ _ hw)
    · obtain ⟨o5, o6, xs, rfl, g4, hC4, hL4, lx, hst, hxs⟩ := hI
      rw [List.getElem?_map] at hx
      obtain ⟨c, hc, rfl⟩ := Option.map_eq_some_iff.mp hx
      have hcn := hws c (List.mem_of_getElem? hc)
      obtain ⟨r, hr0, hr1, hr2, ns, hn1, hn2⟩ := nxt_ok D hst hcn
      have hpG := g4.th hp
      obtain ⟨a2, xs2, x2, e2, ha2, hx2, ht2⟩ := tup_at hpG (i := 2) (t := .tup (rows.map rowTh)) rfl
      obtain ⟨a3, xs3, x3, rfl, ha3, hx3, ht3⟩ := tup_at ht2 (i := stAt (Pr.namesOf h) rows 0 (ws.take i)) (t := rowTh r) (by rw [List.getElem?_map, hr0]; rfl)
      obtain ⟨a4, xs4, x4, rfl, ha4, hx4, ht4⟩ := tup_at ht3 (i := (Pr.namesOf h).idxOf c) (t := enT (nxt (Pr.namesOf h) rows (stAt (Pr.namesOf h) rows 0 (ws.take i)) c)) (by rw [List.getElem?_map, hr1]; rfl)
      obtain ⟨a5, xs5, l5, rfl, ha5, rfl⟩ : ∃ a5 xs5, ∃ l5 : xs5.length = 2, x4 = .ref a5 ∧ G a5 = some (.tup xs5) ∧ xs5 = [.str (nxt (Pr.namesOf h) rows (stAt (Pr.namesOf h) rows 0 (ws.take i)) c).1, .int ((nxt (Pr.namesOf h) rows (stAt (Pr.namesOf h) rows 0 (ws.take i)) c).2 : Int)] := by
        have e0 : enT (nxt (Pr.namesOf h) rows (stAt (Pr.namesOf h) rows 0 (ws.take i)) c) = .tup [sT (nxt (Pr.namesOf h) rows (stAt (Pr.namesOf h) rows 0 (ws.take i)) c).1, .int ((nxt (Pr.namesOf h) rows (stAt (Pr.namesOf h) rows 0 (ws.take i)) c).2 : Int)] := rfl
        rw [e0] at ht4
        cases ht4 with
        | tup a ys _ hb l _ ey =>
          match ys, l with
          | [y0, y1], _ =>
            have q0 := isTh_sT (ey 0 y0 _ rfl rfl)
            have q1 := isTh_int (ey 1 y1 _ rfl rfl)
            exact ⟨a, _, rfl, rfl, hb, by rw [q0, q1]⟩
      have hi : i < ws.length := (List.getElem?_eq_some_iff.mp hc).1
      refine ⟨_, rfl, _, _, _, _, e2, rfl, SqT.of ha2, hx2, _, rfl, a3, xs3, _, _, rfl, rfl, SqT.of ha3, hx3, _, rfl, Or.inl ⟨rfl, _, SqL.of hC4⟩, _, rfl, Lc, _, _, _, _, rfl, rfl, SqL.of hC4, rfl, strs_flat _, idx_get hcn, eq_str c, idx_no, a4, xs4, _, _, rfl, rfl, SqT.of ha4, hx4, ?_⟩
      refine ⟨a5, _, rfl, SqT.of ha5, rfl, _, _, rfl, _, _, rfl, rfl, ?_⟩
      refine ⟨_, rfl, Or.inl ⟨rfl, _, SqL.of hL4⟩, _, rfl, _, rfl, (show 2 ≤ sizeLine by decide), fun p np => ?_⟩
      have newK : ∀ {b : Addr} {o : HO}, G b = some o → (upd G p (.tup [.str c, .str (nxt (Pr.namesOf h) rows (stAt (Pr.namesOf h) rows 0 (ws.take i)) c).1])) b = some o := fun {b o} e => by rw [upd_ne (fun y => by rw [y, np] at e; cases e)]; exact e
      have k5 := g4.new (o := .tup [.str c, .str (nxt (Pr.namesOf h) rows (stAt (Pr.namesOf h) rows 0 (ws.take i)) c).1]) np
      have hp5 : (upd G p (.tup [.str c, .str (nxt (Pr.namesOf h) rows (stAt (Pr.namesOf h) rows 0 (ws.take i)) c).1])) p = some (.tup [.str c, .str (nxt (Pr.namesOf h) rows (stAt (Pr.namesOf h) rows 0 (ws.take i)) c).1]) := upd_same
      have hC5 := newK hC4
      have hL5 := newK hL4
      have s5 : Soft G _ := Soft.keep fun b o e => newK e
      generalize upd G p (.tup [.str c, .str (nxt (Pr.namesOf h) rows (stAt (Pr.namesOf h) rows 0 (ws.take i)) c).1]) = G5 at k5 hp5 hC5 hL5 s5 newK
      refine ⟨L, xs, _, rfl, rfl, hL5, by rw [lx, sizeLine_eq]; omega, ?_⟩
      have s6 : Soft G5 (upd G5 L (.lst (xs ++ [.ref p]))) := Soft.list hL5
      refine ⟨_, _, _, by rw [st_snoc hc]; rfl, k5.put nL, by rw [upd_ne LLc.symm]; exact hC5, upd_same, by rw [List.length_append, lx]; rfl, by rw [st_snoc hc]; exact hr2, fun j v c' e h1 h2 h3 => ?_⟩
      by_cases hlt : j < xs.length
      · rw [List.getElem?_append_left hlt] at h1
        exact s6.th (s5.th (hxs j v c' e h1 h2 h3))
      · have hj' := (List.getElem?_eq_some_iff.mp h1).1
        rw [List.length_append, List.length_singleton] at hj'
        have : j = i := by omega
        subst this
        rw [List.getElem?_append_right (by omega), lx, Nat.sub_self] at h1
        cases h1
        rw [hc] at h2; cases h2
        rw [walk_get _ _ _ _ _ _ hc] at h3
        cases h3
        refine s6.th (.tup p _ _ hp5 rfl (by show 2 ≤ 100000; decide) fun j' v t h8 h9 => ?_)
        match j', h8, h9 with
        | 0, h8, h9 => cases h8; cases h9; exact isTh_str (D.house.nam c hcn)
        | 1, h8, h9 => cases h8; cases h9; exact isTh_str ((D.house.ans ns (List.mem_of_getElem? hn1)).2.2 _ hn2)
        | j' + 2, h8, h9 => simp at h8
    · obtain ⟨o5, o6, xs, rfl, g4, hC4, hL4, lx, hst, hxs⟩ := hI
      rw [List.length_map] at lx
      refine ⟨_, rfl, L, _, rfl, .inl ⟨SqL.of hL4, fun p np => k _ _ (g4.new np) ?_⟩⟩
      refine .tup p xs _ upd_same (by rw [List.length_map, List.length_zip, walk_len, Nat.min_self]; exact lx) (by omega) fun j v t h3 h4 => ?_
      rw [List.getElem?_map] at h4
      obtain ⟨ce, he, rfl⟩ := Option.map_eq_some_iff.mp h4
      rw [List.getElem?_zip_eq_some] at he
      exact (Kp.refl.new np).th (hxs j v ce.1 ce.2 h3 he.1 he.2)
def spSt : Sp := fun vs H Q _ => ∃ pv h rows wp ws, vs = [pv, .ref wp] ∧ IsTh H pv (pT h rows) ∧ ProgD h rows ∧ H wp = some (.tup ((ws : List Str).map V.str)) ∧ (∀ s ∈ ws, s ∈ Pr.namesOf h) ∧ ws.length ≤ 1000 ∧
  ∀ H', Kp H H' → Q (.int ((stAt (Pr.namesOf h) rows 0 ws : Nat) : Int)) H'
theorem ok_state {f g : Addr} {fd gd : FuncData} (F : Fun K "_law_state" "_law_state" sState f fd)
    (G : FnOk P w K mg base CX0 1 g gd ["house"] spCalls) (mG : mg "_law_calls" = some (.ref g)) (kG : PySem.W.keepIn K (.ref g) = true) (bG : Binds K gd ["house"] []) : FnOk P w K mg base CX0 2 f fd ["program", "word"] spSt := by
  refine F.ok scSt (fun vs H Q E h => ?_) (fun cdv A outer s H vs Q E hr h => ?_)
  · obtain ⟨pv, h, rows, wp, ws, rfl, _⟩ := h
    rfl
  · obtain ⟨pv', h, rows, wp, ws, rfl, hp, D, hw, hws, lw, k⟩ := h
    refine ⟨_, pss_cons (ps_set (i := 2) scSt.nd rfl (Or.inl rfl) pe_int)
      (pss_cons (ps_for PassesOwn.never rfl (pi_tup (pv 1)) (pg_name (i := 3) scSt.nd rfl (Or.inl rfl))
        (pss_one (ps_set (i := 2) scSt.nd rfl (Or.inl rfl) (pe_ix ix_tup (pe_ix ix_tup (pe_ix ix_tup (pe_ix ix_tup (pv 0) pe_int (fun _ _ => rfl)) (pv 2) (fun _ _ => rfl)) (pe_bm PySem.F.plainAttrs_list PySem.F.slot_list_index PySem.F.type_list_index mt_index (pe_call G hr rfl mG kG bG .nil pass0 (pa_cons (pe_ix ix_tup (pv 0) pe_int (fun _ _ => rfl)) pa_nil)) (pa_cons (pv 3) pa_nil)) (fun _ _ => rfl)) pe_int (fun _ _ => rfl)))))
      (pss_one (ps_ret (pv 2)))), ?_⟩
    have ho := D.house.ok
    obtain ⟨a1, xs1, hv, rfl, ha1, hx1, hh⟩ := tup_at hp (i := 1) (t := h) rfl
    refine ⟨_, rfl, wp, rfl, ⟨_, SqT.of hw⟩, ?_⟩
    refine for_tup (K := K) (a := wp) (xs := ws.map V.str) (fun i σ G => ∃ o3, σ = [some (.ref a1), some (.ref wp), some (.int ((stAt (Pr.namesOf h) rows 0 (ws.take i) : Nat) : Int)), o3] ∧ Kp H G ∧ stAt (Pr.namesOf h) rows 0 (ws.take i) < rows.length)
      ⟨none, rfl, Kp.refl, D.one⟩ (fun i σ G _ hI => ?_) (fun i x σ G hx hI => ?_) (fun σ G hI => ?_)
    · obtain ⟨_, _, g4, _⟩ := hI
      exact SqT.of (g4 _ _ hw)
    · obtain ⟨o3, rfl, g4, hst⟩ := hI
      rw [List.getElem?_map] at hx
      obtain ⟨c, hc, rfl⟩ := Option.map_eq_some_iff.mp hx
      have hcn := hws c (List.mem_of_getElem? hc)
      obtain ⟨r, hr0, hr1, hr2, ns, hn1, hn2⟩ := nxt_ok D hst hcn
      have hpG := g4.th hp
      obtain ⟨a2, xs2, x2, e2, ha2, hx2, ht2⟩ := tup_at hpG (i := 2) (t := .tup (rows.map rowTh)) rfl
      obtain ⟨a3, xs3, x3, rfl, ha3, hx3, ht3⟩ := tup_at ht2 (i := stAt (Pr.namesOf h) rows 0 (ws.take i)) (t := rowTh r) (by rw [List.getElem?_map, hr0]; rfl)
      refine ⟨_, rfl, _, _, _, _, e2, rfl, SqT.of ha2, hx2, _, rfl, a3, xs3, _, _, rfl, rfl, SqT.of ha3, hx3, _, rfl, a1, _, _, _, rfl, rfl, SqT.of (g4 _ _ ha1), hx1, hv, h, rfl, g4.th hh, ho, fun Lc G1 k1 nLc hLc => ?_⟩
      obtain ⟨a4, xs4, x4, rfl, ha4, hx4, ht4⟩ := tup_at (Kp.th k1 ht3) (i := (Pr.namesOf h).idxOf c) (t := enT (nxt (Pr.namesOf h) rows (stAt (Pr.namesOf h) rows 0 (ws.take i)) c)) (by rw [List.getElem?_map, hr1]; rfl)
      obtain ⟨a5, xs5, x5, rfl, ha5, hx5, ht5⟩ := tup_at ht4 (i := 1) (t := .int ((nxt (Pr.namesOf h) rows (stAt (Pr.namesOf h) rows 0 (ws.take i)) c).2 : Int)) rfl
      obtain rfl := isTh_int ht5
      refine ⟨Or.inl ⟨rfl, _, SqL.of hLc⟩, _, rfl, Lc, _, _, _, _, rfl, rfl, SqL.of hLc, rfl, strs_flat _, idx_get hcn, eq_str c, idx_no, a4, xs4, _, _, rfl, rfl, SqT.of ha4, hx4, a5, xs5, _, _, rfl, rfl, SqT.of ha5, hx5, ?_⟩
      exact ⟨_, by rw [st_snoc hc]; rfl, g4.trans k1, by rw [st_snoc hc]; exact hr2⟩
    · obtain ⟨o3, rfl, g4, _⟩ := hI
      refine ⟨_, rfl, ?_⟩
      rw [List.length_map, List.take_length]
      exact k _ g4
end
end La

set_option Elab.async false
set_option linter.all false
set_option maxRecDepth 100000
set_option maxHeartbeats 2000000
/-! the law's own: has_head, is_whole, all_names. -/
namespace Lb
open PySem PySem.Spec PyProof.Rows L2 Sx Rp Dw NdefX GxR Rw Th Kd Gx Nm Hs Pr Ps Lw Lh Lp Lq Ez En An Ah La
abbrev sHead : Stmt := topS 50
abbrev sWhole : Stmt := topS 52
abbrev sAll : Stmt := topS 47
theorem scHd : FnScope ["thing", "word", "many"] ["thing", "word", "many"] (defScope sHead) := ⟨rfl, rfl, rfl, by decide +kernel, rfl, by decide +kernel, by decide +kernel⟩
theorem scWh : FnScope ["thing"] ["thing"] (defScope sWhole) := ⟨rfl, rfl, rfl, by decide +kernel, rfl, by decide +kernel, by decide +kernel⟩
theorem scAl : FnScope ["house", "found", "word", "call", "replies"] ["house"] (defScope sAll) := ⟨rfl, rfl, rfl, by decide +kernel, rfl, by decide +kernel, by decide +kernel⟩
section
variable {P : Program} {w : World} {K : PySem.W.Frag} {mg : Str → Option Value} {base : Heap} {T : List Addr}
theorem ok_whole {f : Addr} {fd : FuncData} (F : Fun K "_law_is_whole" "_law_is_whole" sWhole f fd) (mi : mg "isinstance" = none) (mI : mg "int" = none) (mB : mg "bool" = none) : FnOk P w K mg base CX0 1 f fd ["thing"] spNumber := by
  refine F.ok scWh (fun vs H Q E h => ?_) (fun cdv A outer s H vs Q E hr h => ?_)
  · obtain ⟨v, t, rfl, _⟩ := h
    rfl
  · obtain ⟨v, t, rfl, h, q⟩ := h
    refine ⟨_, pss_one (ps_ret (pe_and (pe_callB call_isi (by rfl) mi (by decide +kernel) (pa_cons (pv 0) (pa_cons (pe_bltn (v := .ty "int") (by rfl) mI (by decide +kernel) rfl) pa_nil))) (pe_one (pe_not (pe_callB call_isi (by rfl) mi (by decide +kernel) (pa_cons (pv 0) (pa_cons (pe_bltn (v := .ty "bool") (by rfl) mB (by decide +kernel) rfl) pa_nil))))))), ?_⟩
    obtain ⟨ty, y, e1, e2, e3, e4⟩ := ty_of (K := K) h
    refine ⟨_, rfl, v, .ty "int", ty, .type "int", _, rfl, .ty "int", y, e3, _, rfl, ?_⟩
    unfold Th.isNum at q
    cases hb : t.isInt with
    | true =>
      rw [hb] at q
      exact iteT' rfl ⟨_, rfl, v, .ty "bool", ty, .type "bool", _, rfl, .ty "bool", y, e4, _, rfl, q⟩
    | false =>
      rw [hb] at q
      exact iteF' rfl q
theorem ok_head {f : Addr} {fd : FuncData} (F : Fun K "_law_has_head" "_law_has_head" sHead f fd) (mi : mg "isinstance" = none) (mT : mg "tuple" = none) (ml : mg "len" = none) (mS : mg "str" = none) : FnOk P w K mg base CX0 1 f fd ["thing", "word", "many"] spTold := by
  refine F.ok scHd (fun vs H Q E h => ?_) (fun cdv A outer s H vs Q E hr h => ?_)
  · obtain ⟨v, t, wd, m, rfl, _⟩ := h
    rfl
  · obtain ⟨v, t, wd, m, rfl, h, m0, q⟩ := h
    refine ⟨_, pss_one (ps_ret (pe_and (pe_callB call_isi (by rfl) mi (by decide +kernel) (pa_cons (pv 0) (pa_cons (pe_bltn (v := .ty "tuple") (by rfl) mT (by decide +kernel) rfl) pa_nil)))
      (pe_and (pe_cmpR op_eq (pe_callB call_len_seq (by rfl) ml PySem.boot_len (pa_cons (pv 0) pa_nil)) (pv 2) (nomark _))
      (pe_and (pe_callB call_isi (by rfl) mi (by decide +kernel) (pa_cons (pe_ix ix_tup (pv 0) pe_int (fun _ _ => rfl)) (pa_cons (pe_bltn (v := .ty "str") (by rfl) mS (by decide +kernel) rfl) pa_nil)))
      (pe_one (pe_cmpR op_eq (pe_ix ix_tup (pv 0) pe_int (fun _ _ => rfl)) (pv 1) (nomark _))))))), ?_⟩
    obtain ⟨ty, y, e1, e2, e3, e4⟩ := ty_of (K := K) h
    refine ⟨_, rfl, v, .ty "tuple", ty, .type "tuple", _, rfl, .ty "tuple", y, e2, _, rfl, ?_⟩
    cases h with
    | tup a xs ts h l z e =>
      refine iteT' rfl ⟨_, rfl, a, xs, rfl, .inr (SqT.of h), _, rfl, rfl, _, rfl, ?_⟩
      have e9 : decide (V.int (xs.length : Int) = V.int m) = decide ((ts.length : Int) = m) := by
        rw [l]
        by_cases hh : (ts.length : Int) = m
        · rw [decide_eq_true hh, hh, decide_eq_true rfl]
        · rw [decide_eq_false hh, decide_eq_false (fun y => hh (by injection y))]
      rw [e9]
      by_cases hm : (ts.length : Int) = m
      · refine iteT' (decide_eq_true hm) ?_
        cases ts with
        | nil => simp at hm; omega
        | cons t0 tr =>
          cases xs with
          | nil => simp at l
          | cons x0 xr =>
            have h0 := e 0 x0 t0 rfl rfl
            obtain ⟨ty, y, e1, _⟩ := ty_of (K := K) h0
            refine ⟨_, rfl, a, _, _, x0, rfl, rfl, SqT.of h, at0, x0, .ty "str", ty, .type "str", _, rfl, .ty "str", y, e1, _, rfl, ?_⟩
            unfold toldT at q
            cases h0 with
            | str z0 hz =>
              simp only [decide_eq_true (show (((tr.length + 1 : Nat) : Int) = m) from hm), Bool.true_and] at q
              refine iteT' rfl ⟨_, rfl, a, _, _, _, rfl, rfl, SqT.of h, at0, _, rfl, rfl, ?_⟩
              have e9 : decide (V.str (⟨z0.toArray⟩ : Str) = V.str wd) = decide ((⟨z0.toArray⟩ : Str) = wd) := by
                by_cases hh : (⟨z0.toArray⟩ : Str) = wd
                · rw [decide_eq_true hh, hh, decide_eq_true rfl]
                · rw [decide_eq_false hh, decide_eq_false (fun y => hh (by injection y))]
              rw [e9]
              exact q
            | _ => exact iteF' rfl q
      · refine iteF' (decide_eq_false hm) ?_
        have e9 : toldT (.tup ts) wd m = false := by
          unfold toldT
          split
          · rename_i z0 tr he
            injection he with he
            subst he
            rw [decide_eq_false (by simpa using hm), Bool.false_and]
          · rfl
        rw [e9] at q
        exact q
    | _ => exact iteF' rfl q
def spAllN : Sp := fun vs H Q _ => ∃ hv h, vs = [hv] ∧ IsTh H hv h ∧ HouseD h ∧ ∀ p ss H', Kp H H' → H p = none → H' p = some (.lst ((ss : List Str).map V.str)) → (∀ s ∈ ss, Nam s) → ss.length ≤ 30 → Q (.ref p) H'
theorem ok_all {f : Addr} {fd : FuncData} (F : Fun K "_law_all_names" "_law_all_names" sAll f fd) (mL : mg "list" = none) : FnOk P w K mg base CX0 1 f fd ["house"] spAllN := by
  refine F.ok scAl (fun vs H Q E h => ?_) (fun cdv A outer s H vs Q E hr h => ?_)
  · obtain ⟨hv, h, rfl, _⟩ := h
    rfl
  · obtain ⟨hv, h, rfl, hh, D, k⟩ := h
    refine ⟨_, pss_cons (ps_set (i := 1) scAl.nd rfl (Or.inl rfl) (pe_lst pa_nil))
      (pss_cons (ps_for PassesOwn.never rfl (pi_tup (pe_ix ix_tup (pv 0) pe_int (fun _ _ => rfl))) (pg_tup rfl (pgs_cons (pg_name (i := 2) scAl.nd rfl (Or.inl rfl)) (pgs_cons (pg_name (i := 3) scAl.nd rfl (Or.inl rfl)) (pgs_cons (pg_name (i := 4) scAl.nd rfl (Or.inl rfl)) pgs_nil))))
        (pss_one (ps_set (i := 1) scAl.nd rfl (Or.inl rfl) (pe_op op_cat (pe_op op_cat (pv 1) (pe_lst (pa_cons (pv 3) pa_nil))) (pe_callTy call_list_of (by rfl) mL (by decide +kernel) (pa_cons (pv 4) pa_nil))))))
      (pss_one (ps_ret (pv 1)))), ?_⟩
    have hP := house_p D.ok
    obtain ⟨a, xs, x, rfl, ha, hx, h1⟩ := part1 (n := 2) hh hP.told (by decide)
    have e1 := hP.tup
    have e2 := hP.calls
    have e4 := hP.len
    have e5 := D.ans
    have e6 := D.nam
    refine ⟨Nat.zero_le _, fun L nL => ?_⟩
    cases et : Hs.nth 1 h with
    | tup cs =>
      rw [et] at h1 e1 e2 e4
      have ea : ansOf h = cs.map fun c => strsOf (items (Hs.nth 2 c)) := by unfold ansOf; rw [et]; rfl
      have en : Pr.namesOf h = strsOf (cs.map (Hs.nth 1)) := by unfold Pr.namesOf; rw [et]; rfl
      cases h1 with
      | tup b ys _ hb l _ ey =>
        have k0 : Kp H (upd H L (.lst [])) := Kp.refl.new nL
        refine ⟨_, rfl, a, xs, _, _, rfl, rfl, SqT.of (k0 _ _ ha), hx, b, rfl, ⟨ys, SqT.of (k0 _ _ hb)⟩, ?_⟩
        refine for_tup (K := K) (a := b) (xs := ys) (fun i σ G => ∃ o2 o3 o4 p ss, σ = [some (.ref a), some (.ref p), o2, o3, o4] ∧ Kp H G ∧ H p = none ∧ G p = some (.lst ((ss : List Str).map V.str)) ∧ (∀ s ∈ ss, Nam s) ∧ ss.length ≤ 6 * i)
          ⟨none, none, none, L, [], rfl, k0, nL, upd_same, fun s hs => by simp at hs, Nat.le_refl _⟩ (fun i σ G _ hI => ?_) (fun i x σ G hx hI => ?_) (fun σ G hI => ?_)
        · obtain ⟨_, _, _, _, _, _, g, _⟩ := hI
          exact SqT.of (g _ _ hb)
        · obtain ⟨o2, o3, o4, p, ss, rfl, g, np, hp, hn, hl⟩ := hI
          have hi : i < cs.length := by rw [← l]; exact (List.getElem?_eq_some_iff.mp hx).1
          have e4' : cs.length ≤ 5 := e4
          obtain ⟨c', hc⟩ : ∃ c', cs[i]? = some c' := ⟨cs[i], List.getElem?_eq_getElem hi⟩
          have hth := g.th (ey i x c' hx hc)
          have hcall := List.all_eq_true.mp e2 c' (List.mem_of_getElem? hc)
          unfold callT at hcall
          simp only [Bool.and_eq_true] at hcall
          obtain ⟨z, ts, rfl, lts, _⟩ := told_ex (n := 3) hcall.1
          match ts, lts with
          | [t1, t2], _ =>
            have hn1 : nameT t1 = true := hcall.2.1
            have hn2 : namesT 5 t2 = true := hcall.2.2
            obtain ⟨z1, rfl⟩ := name_str hn1
            cases t2 with
            | tup us =>
              cases hth with
              | tup a2 ys2 _ hb2 l2 _ ey2 =>
                match ys2, l2 with
                | [y0, y1, y2], _ =>
                  have q1 := ey2 1 y1 _ rfl rfl
                  have q2 := ey2 2 y2 _ rfl rfl
                  cases q1 with
                  | str _ hz1 =>
                    obtain ⟨an, rfl⟩ : ∃ an, y2 = V.ref an := by cases q2; exact ⟨_, rfl⟩
                    have han := names_at q2 (names_all hn2)
                    have hns : strsOf us ∈ ansOf h := by rw [ea]; exact List.mem_map.mpr ⟨_, List.mem_of_getElem? hc, rfl⟩
                    obtain ⟨w1, w2, w3⟩ := e5 _ hns
                    have hz : Nam ⟨z1.toArray⟩ := e6 _ (by rw [en]; unfold strsOf; exact List.mem_map.mpr ⟨_, List.mem_map.mpr ⟨_, List.mem_of_getElem? hc, rfl⟩, rfl⟩)
                    refine ⟨a2, _, rfl, SqT.of hb2, rfl, _, _, rfl, _, _, rfl, _, _, rfl, rfl, ?_⟩
                    refine ⟨_, rfl, _, rfl, (show 1 ≤ sizeLine by decide), fun p1 n1 => ?_⟩
                    have g1 := g.new (o := .lst [.str ⟨z1.toArray⟩]) n1
                    have h1p := (Kp.refl.new (o := .lst [.str ⟨z1.toArray⟩]) n1 : Kp G _) _ _ hp
                    have h1q : (upd G p1 (.lst [.str ⟨z1.toArray⟩])) p1 = some (.lst [.str ⟨z1.toArray⟩]) := upd_same
                    have h1n := (Kp.refl.new (o := .lst [.str ⟨z1.toArray⟩]) n1 : Kp G _) _ _ han
                    generalize upd G p1 (.lst [.str ⟨z1.toArray⟩]) = G1 at g1 h1p h1q h1n
                    refine ⟨p, p1, _, _, rfl, rfl, h1p, h1q, by rw [List.length_map, sizeLine_eq]; show ss.length + 1 ≤ _; omega, fun p2 n2 => ?_⟩
                    have g2 := g1.new (o := .lst (ss.map V.str ++ [.str ⟨z1.toArray⟩])) n2
                    have h2q : (upd G1 p2 (.lst (ss.map V.str ++ [.str ⟨z1.toArray⟩]))) p2 = some (.lst (ss.map V.str ++ [.str ⟨z1.toArray⟩])) := upd_same
                    have h2n := (Kp.refl.new (o := .lst (ss.map V.str ++ [.str ⟨z1.toArray⟩])) n2 : Kp G1 _) _ _ h1n
                    generalize upd G1 p2 (.lst (ss.map V.str ++ [.str ⟨z1.toArray⟩])) = G2 at g2 h2q h2n
                    refine ⟨_, rfl, an, _, rfl, .inr (SqT.of h2n), fun p3 n3 => ?_⟩
                    have g3 := g2.new (o := .lst ((strsOf us).map V.str)) n3
                    have h3q := (Kp.refl.new (o := .lst ((strsOf us).map V.str)) n3 : Kp G2 _) _ _ h2q
                    have h3n : (upd G2 p3 (.lst ((strsOf us).map V.str))) p3 = some (.lst ((strsOf us).map V.str)) := upd_same
                    generalize upd G2 p3 (.lst ((strsOf us).map V.str)) = G3 at g3 h3q h3n
                    refine ⟨p2, p3, _, _, rfl, rfl, h3q, h3n, by rw [List.length_append, List.length_map, List.length_map, sizeLine_eq]; show ss.length + 1 + _ ≤ _; omega, fun p4 n4 => ?_⟩
                    refine ⟨_, _, _, p4, ss ++ (⟨z1.toArray⟩ :: strsOf us), rfl, g3.new n4, g3.non n4, ?_, fun s hs => ?_, ?_⟩
                    · rw [upd_same, List.map_append, List.map_cons, List.append_assoc]; rfl
                    · rcases List.mem_append.mp hs with h' | h'
                      · exact hn s h'
                      · rcases List.mem_cons.mp h' with rfl | h''
                        · exact hz
                        · exact w3 s h''
                    · rw [List.length_append, List.length_cons]; omega
            | _ => cases hn2
        · obtain ⟨o2, o3, o4, p, ss, rfl, g, np, hp, hn, hl⟩ := hI
          exact ⟨_, rfl, k p ss G g np hp hn (by rw [l] at hl; have e4' : cs.length ≤ 5 := e4; omega)⟩
    | _ => rw [et] at e1; cases e1
end
end Lb

set_option Elab.async false
set_option linter.all false
set_option maxRecDepth 100000
set_option maxHeartbeats 2000000
/-! the law's own: is_name. -/
namespace Li
open PySem PySem.Spec PyProof.Rows L2 Sx Rp Dw NdefX GxR Rw Th Kd Gx Nm Hs Pr Ps Lw Lh Lp Lq Ez En An Ah La Lb
abbrev sLName : Stmt := topS 48
theorem scLn : FnScope ["thing", "reserved", "letter"] ["thing"] (defScope sLName) := ⟨rfl, rfl, rfl, by decide +kernel, rfl, by decide +kernel, by decide +kernel⟩
theorem lc_sg {l : List Nat} {g : TG} {tt : TT} {te : TE} {vs : List Nat} {σ : L2.St} {H1 : Hp} {D : Addr} {Qd : Hp → Prop} (Pv : Nat → Hp → Prop) (h0 : Pv 0 (upd H1 D (.lst [])))
    (hs : ∀ i c H, l[i]? = some c → Pv i H → g (.str ⟨#[c]⟩) (wipe σ vs) H fun σ2 H2 => wipe σ2 vs = wipe σ vs ∧ tt σ2 H2 fun b H3 => if b = true then te σ2 H3 fun y H4 => ∃ acc, H4 D = some (.lst acc) ∧ acc.length < sizeLine ∧ Pv (i + 1) (upd H4 D (.lst (acc ++ [y]))) else Pv (i + 1) H3) (hd : ∀ H, Pv l.length H → Qd H) :
    ∃ W : Nat → Nat → Hp → Prop, (∃ m, W 0 m (upd H1 D (.lst []))) ∧ ∀ i m H, W i m H →
      ((Its ⟨l.toArray⟩).stop i H ∧ Qd H) ∨ ((Its ⟨l.toArray⟩).go i H ∧ ∃ Nx : Hp → Prop, (∀ H', Nx H' → ∃ m', m' < m ∧ W (i + 1) m' H') ∧ ∀ x H', (Its ⟨l.toArray⟩).yld i H x H' → g x (wipe σ vs) H' fun σ2 H2 => wipe σ2 vs = wipe σ vs ∧ tt σ2 H2 fun b H3 =>
        if b = true then te σ2 H3 fun y H4 => ∃ acc, H4 D = some (.lst acc) ∧ acc.length < sizeLine ∧ Nx (upd H4 D (.lst (acc ++ [y]))) else Nx H3) := by
  refine ⟨fun i m H => m = l.length - i ∧ i ≤ l.length ∧ Pv i H, ⟨_, rfl, Nat.zero_le _, h0⟩, fun i m H w => ?_⟩
  obtain ⟨rfl, hi, p⟩ := w
  have sz : (⟨l.toArray⟩ : Str).cps.size = l.length := by simp
  by_cases lt : i < l.length
  · refine .inr ⟨by show i < (⟨l.toArray⟩ : Str).cps.size; rw [sz]; exact lt, Pv (i + 1), fun H' p' => ⟨l.length - (i + 1), by omega, rfl, lt, p'⟩, fun x H' y => ?_⟩
    obtain ⟨rfl, c, gc, rfl⟩ := y
    exact hs i c _ (by simpa using gc) p
  · obtain rfl : i = l.length := by omega
    exact .inl ⟨by show (⟨l.toArray⟩ : Str).cps.size ≤ l.length; rw [sz]; exact Nat.le_refl _, hd H p⟩
def sg (c : Nat) : Str := ⟨#[c]⟩
theorem sg_pl {z : List Nat} (h : ∀ c ∈ z, c < 127) : ∀ s ∈ z.map sg, Pl s := fun s hs => by
  obtain ⟨c, hc, rfl⟩ := List.mem_map.mp hs
  exact ⟨[c], rfl, fun x hx => by rw [List.mem_singleton.mp hx]; exact h c hc, by simp⟩
def abc : Str := Str.ofString "abcdefghijklmnopqrstuvwxyz"
def rNIs : R2 := fun x y H Q => ∃ i j, x = .str i ∧ y = .str j ∧ Q (.bl (!(!(Builtin.Str.occurrences j i 0 j.length 1).isEmpty))) H
theorem low_occ : ∀ c < 127, (!(!(Builtin.Str.occurrences abc (⟨#[c]⟩ : Str) 0 abc.length 1).isEmpty)) = !low c := by decide +kernel
abbrev kept15 : List V := [.str "answer", .str "ask", .str "call", .str "clause", .str "copy", .str "document", .str "draw", .str "false", .str "give", .str "house", .str "inner", .str "law", .str "never", .str "node", .str "outer"]
abbrev kept4 : List V := [.str "program", .str "state", .str "true", .str "wait"]
theorem kept_cat : kept15 ++ kept4 = keptV := by decide +kernel
/-- what the law's own judging defs promise -/
def spL (f : Th → Bool) : Sp := fun vs H Q _ => ∃ v t, vs = [v] ∧ IsTh H v t ∧ ∀ H', Kp H H' → Q (.bl (f t)) H'
section
variable {P : Program} {w : World} {K : PySem.W.Frag} {mg : Str → Option Value} {base : Heap} {T : List Addr}
theorem ok_lname {f : Addr} {fd : FuncData} (F : Fun K "_law_is_name" "_law_is_name" sLName f fd) (mi : mg "isinstance" = none) (mst : mg "str" = none) (ml : mg "len" = none) : FnOk P w K mg base CX0 1 f fd ["thing"] (spL nameT) := by
  refine F.ok scLn (fun vs H Q E h => ?_) (fun cdv A outer s H vs Q E hr h => ?_)
  · obtain ⟨v, t, rfl, _⟩ := h
    rfl
  · obtain ⟨v, t, rfl, h, k⟩ := h
    refine ⟨_, pss_cons (ps_set (i := 1) scLn.nd rfl (Or.inl rfl) (pe_lst (pa_cons pe_str (pa_cons pe_str (pa_cons pe_str (pa_cons pe_str (pa_cons pe_str (pa_cons pe_str (pa_cons pe_str (pa_cons pe_str (pa_cons pe_str (pa_cons pe_str (pa_cons pe_str (pa_cons pe_str (pa_cons pe_str (pa_cons pe_str (pa_cons pe_str pa_nil)))))))))))))))))
      (pss_cons (ps_if (PW.pt (pw_or (pt_not (pt_val (pe_callB call_isi (by rfl) mi (by decide +kernel) (pa_cons (pv 0) (pa_cons (pe_bltn (v := .ty "str") (by rfl) mst (by decide +kernel) rfl) pa_nil))))) (pw_or (pt_not (pt_chain op_le op_le pe_int (pe_callB call_len_str (by rfl) ml PySem.boot_len (pa_cons (pv 0) pa_nil)) pe_int))
          (pw_or1 (pt_cmpR op_in_seq (pv 0) (pe_op op_cat (pv 1) (pe_lst (pa_cons pe_str (pa_cons pe_str (pa_cons pe_str (pa_cons pe_str pa_nil)))))) (by rfl)))))) (pss_one (ps_ret pe_bl)) pss_nil)
      (pss_one (ps_ret (pe_cmpR (op_eqD hr.units) (pe_lc (own := [("letter", 2)]) (g := gName 2) (tt := tTest (tOp rNIs (tVar 2) (tC (.str "abcdefghijklmnopqrstuvwxyz")))) (te := tVar 2) (by rfl) scLn.nd (pi_str (pv 0)) (blkOk_by (own := [("letter", 2)]) (N := ["thing", "reserved", "letter"]) (sc := defScope sLName) (by decide +kernel)) (fun _ _ _ _ _ => pg_name (i := 2) scLn.nd rfl (Or.inl rfl))
        (fun _ _ _ _ _ => pts_one (pt_cmpR op_notIn_str (pv 2) pe_str (by rfl))) (fun _ _ _ _ _ => pv 2)) (pe_lst pa_nil) (nomark _))))), ?_⟩
    refine ⟨show 15 ≤ sizeLine by decide, fun L0 nL0 => ?_⟩
    have k0 : Kp H (upd H L0 (.lst kept15)) := Kp.refl.new nL0
    have h0 : (upd H L0 (.lst kept15)) L0 = some (.lst kept15) := upd_same
    have hth := k0.th h
    obtain ⟨ty, y, e1, _⟩ := ty_of (K := K) hth
    refine ⟨_, rfl, v, .ty "str", ty, .type "str", _, rfl, .ty "str", y, e1, _, rfl, ?_⟩
    cases h with
    | str z hl' =>
      obtain ⟨hl, hz⟩ := hl'
      refine iteF' rfl ?_
      have lz : (⟨z.toArray⟩ : Str).length ≤ sizeLine := by rw [len_arr]; exact Nat.le_trans hl (by decide)
      refine ⟨_, rfl, ⟨z.toArray⟩, rfl, lz, _, _, rfl, rfl, _, rfl, ?_⟩
      rw [len_arr]
      by_cases h1 : 1 ≤ z.length
      · refine iteT' (decide_eq_true (by omega)) ⟨_, _, rfl, rfl, _, rfl, ?_⟩
        by_cases h8 : z.length ≤ 8
        · have e8 : decide ((z.length : Int) ≤ 8) = true := decide_eq_true (by omega)
          rw [e8]
          refine iteF' rfl ⟨_, rfl, _, rfl, show 4 ≤ sizeLine by decide, fun L1 nL1 => ?_⟩
          have k1 := k0.new (o := .lst kept4) nL1
          have h01 : (upd (upd H L0 (.lst kept15)) L1 (.lst kept4)) L0 = some (.lst kept15) := (Kp.refl.new nL1 : Kp _ _) _ _ h0
          refine ⟨L0, L1, kept15, kept4, rfl, rfl, h01, upd_same, by decide, fun L2 nL2 => ?_⟩
          have k2 := k1.new (o := .lst (kept15 ++ kept4)) nL2
          refine ⟨L2, kept15 ++ kept4, rfl, .inl (SqL.of upd_same), rfl, by decide +kernel, _, rfl, ?_⟩
          rw [show inV (.str ⟨z.toArray⟩) (kept15 ++ kept4) = inV (.str ⟨z.toArray⟩) keptV by rw [kept_cat]]
          cases hv : inV (.str ⟨z.toArray⟩) keptV with
          | true =>
            refine iteT' rfl ?_
            have q := k _ k2
            show Q _ _
            have e9 : nameT (.str z) = false := by show isName z = false; unfold isName; rw [hv]; simp
            rw [e9] at q
            exact q
          | false =>
            refine iteF' rfl ?_
            refine ⟨_, rfl, ⟨z.toArray⟩, rfl, fun L nL => ?_⟩
            refine lc_sg (l := z) (fun i G => ∃ zs : List Nat, G L = some (.lst ((zs.map sg).map V.str)) ∧ zs = (z.take i).filter (fun c => !low c) ∧ Kp H G) ⟨[], upd_same, rfl, k2.new nL⟩ (fun i c G hc h => ?_) (fun G h => ?_)
            · obtain ⟨zs, hL, ez, kG⟩ := h
              have hc127 := hz c (List.mem_of_getElem? hc)
              have tk : (z.take (i + 1)).filter (fun c => !low c) = zs ++ (if low c = true then [] else [c]) := by
                rw [List.take_add_one, hc, List.filter_append, ez]
                cases hw : low c <;> simp [hw]
              refine ⟨rfl, _, rfl, sg c, abc, rfl, rfl, _, rfl, ?_⟩
              rw [show (!(!(Builtin.Str.occurrences abc (sg c) 0 abc.length 1).isEmpty)) = !low c from low_occ c hc127]
              cases hl : low c with
              | true =>
                rw [hl] at tk
                refine iteF' rfl ⟨zs, hL, ?_, kG⟩
                rw [tk]; simp
              | false =>
                rw [hl] at tk
                have zl : zs.length ≤ z.length := by rw [ez]; exact Nat.le_trans (List.length_filter_le _ _) (by rw [List.length_take]; omega)
                refine iteT' rfl ⟨_, rfl, _, hL, by rw [List.length_map, List.length_map, sizeLine_eq]; omega, zs ++ [c], ?_, ?_, kG.put (k2.non nL)⟩
                · rw [upd_same, List.map_append, List.map_append]; rfl
                · rw [tk]; simp
            · obtain ⟨zs, hL, ez, kG⟩ := h
              rw [List.take_length] at ez
              refine ⟨Nat.zero_le _, fun M nM => ⟨.list ((zs.map sg).map PyData.str), .list [], .lst (SqL.of ?_) (dp_strs _), .lst (SqL.of upd_same) .nil, strs_shaped (sg_pl fun c hc => ?_), by decide +kernel, ?_⟩⟩
              · rw [upd_ne (fun y => by rw [← y, hL] at nM; cases nM)]; exact hL
              · rw [ez] at hc
                exact hz c (List.mem_filter.mp hc).1
              · have q := k (upd G M (.lst [])) (kG.new nM)
                have e9 : nameT (.str z) = z.all low := by show isName z = _; unfold isName; rw [hv, decide_eq_true h1, decide_eq_true h8]; simp
                rw [e9] at q
                have ee : PyData.eqv (.list ((zs.map sg).map PyData.str)) (.list []) = z.all low := by
                  rw [ez]
                  cases ef : z.filter (fun c => !low c) with
                  | nil =>
                    have a : z.all low = true := List.all_eq_true.mpr fun c hc => by
                      have y := List.filter_eq_nil_iff.mp ef c hc
                      simpa using y
                    rw [a]; decide +kernel
                  | cons c r =>
                    have a : z.all low = false := by
                      have m : c ∈ z.filter (fun c => !low c) := by rw [ef]; exact List.mem_cons_self
                      obtain ⟨m1, m2⟩ := List.mem_filter.mp m
                      cases y : z.all low with
                      | false => rfl
                      | true => rw [List.all_eq_true.mp y c m1] at m2; cases m2
                    rw [a]
                    simp [PyData.eqv, PyData.eqvAll]
                rw [ee]
                exact q
        · have e8 : decide ((z.length : Int) ≤ 8) = false := decide_eq_false (by omega)
          rw [e8]
          refine iteT' rfl ?_
          have q2 := k _ k0
          have e9 : nameT (.str z) = false := by show isName z = false; unfold isName; rw [decide_eq_false h8]; simp
          rw [e9] at q2
          exact q2
      · have e1 : decide ((1 : Int) ≤ (z.length : Int)) = false := decide_eq_false (by omega)
        refine iteF' e1 ⟨_, rfl, iteT' rfl ?_⟩
        have q2 := k _ k0
        have e9 : nameT (.str z) = false := by show isName z = false; unfold isName; rw [decide_eq_false h1]; simp
        rw [e9] at q2
        exact q2
    | _ => exact iteT' rfl (iteT' rfl (k _ k0))
end
end Li

set_option Elab.async false
set_option linter.all false
set_option maxRecDepth 100000
set_option maxHeartbeats 2000000
/-! the law's own: are_names. -/
namespace Ln
open PySem PySem.Spec PyProof.Rows L2 Sx Rp Dw NdefX GxR Rw Th Kd Gx Nm Hs Pr Ps Lw Lh Lp Lq Ez En An Ah La Lb Li
abbrev sLNames : Stmt := topS 49
theorem scLr : FnScope ["thing", "most", "name"] ["thing", "most"] (defScope sLNames) := ⟨rfl, rfl, rfl, by decide +kernel, rfl, by decide +kernel, by decide +kernel⟩
def ones (k : Nat) : List V := List.replicate k (.int 1)
def onesD (k : Nat) : List PyData := List.replicate k (.int 1)
theorem ones_shaped (k : Nat) : SeqAt.shaped (.list (onesD k)) = true := all_shaped fun d hd => by
  rw [List.eq_of_mem_replicate hd]
  exact ⟨by simp [PyData.canLay0], by simp [PyData.depth]⟩
theorem dp_ones {K : PySem.W.Frag} {H : Hp} : ∀ k : Nat, DpAll K H (ones k) (onesD k)
  | 0 => .nil
  | k + 1 => .cons (.int 1) (dp_ones k)
theorem ones_eq (k : Nat) : PyData.eqv (.list (onesD k)) (.list []) = decide (k = 0) := by
  cases k with
  | zero => decide +kernel
  | succ k => simp [onesD, List.replicate_succ, PyData.eqv, PyData.eqvAll]
theorem ones_snoc (k : Nat) : ones k ++ [V.int 1] = ones (k + 1) := by unfold ones; rw [List.replicate_succ']
/-- what the law's own judging defs of a thing and a number promise -/
def spLn (f : Nat → Th → Bool) : Sp := fun vs H Q _ => ∃ v t n, vs = [v, .int ((n : Nat) : Int)] ∧ n < 1000 ∧ IsTh H v t ∧ ∀ H', Kp H H' → Q (.bl (f n t)) H'
section
variable {P : Program} {w : World} {K : PySem.W.Frag} {mg : Str → Option Value} {base : Heap} {T : List Addr}
theorem ok_lare {f g : Addr} {fd gd : FuncData} (F : Fun K "_law_are_names" "_law_are_names" sLNames f fd) (mi : mg "isinstance" = none) (mt : mg "tuple" = none) (ml : mg "len" = none) (ms : mg "set" = none)
    (G : FnOk P w K mg base CX0 1 g gd ["thing"] (spL nameT)) (mG : mg "_law_is_name" = some (.ref g)) (kG : PySem.W.keepIn K (.ref g) = true) (bG : Binds K gd ["thing"] []) : FnOk P w K mg base CX0 2 f fd ["thing", "most"] (spLn namesT) := by
  refine F.ok scLr (fun vs H Q E h => ?_) (fun cdv A outer s H vs Q E hr h => ?_)
  · obtain ⟨v, t, n, rfl, _⟩ := h
    rfl
  · obtain ⟨v, t, n, rfl, hn, h, q⟩ := h
    refine ⟨_, pss_cons (ps_if (PW.pt (pw_or (pt_not (pt_val (pe_callB call_isi (by rfl) mi (by decide +kernel) (pa_cons (pv 0) (pa_cons (pe_bltn (v := .ty "tuple") (by rfl) mt (by decide +kernel) rfl) pa_nil))))) (pw_or (pt_not (pt_chain op_le op_le pe_int (pe_callB call_len_seq (by rfl) ml PySem.boot_len (pa_cons (pv 0) pa_nil)) (pv 1)))
        (pw_or1 (pt_cmpR (op_neD hr.units) (pe_lc (own := [("name", 2)]) (g := gName 2) (tt := tNot (tB (tCall (spL nameT) [] E0 (tCons (tVar 2) tNil)))) (te := tC (.int 1)) (by rfl) scLr.nd (pi_tup (pv 0)) (blkOk_by (own := [("name", 2)]) (N := ["thing", "most", "name"]) (sc := defScope sLNames) (by decide +kernel)) (fun _ _ _ _ _ => pg_name (i := 2) scLr.nd rfl (Or.inl rfl))
          (fun _ _ _ _ _ => pts_one (pt_not (pt_val (pe_call G hr rfl mG kG bG .nil pass0 (pa_cons (pv 2) pa_nil))))) (fun _ _ _ _ _ => pe_int)) (pe_lst pa_nil) (nomark _)))))) (pss_one (ps_ret pe_bl)) pss_nil)
      (pss_one (ps_ret (pe_cmpR op_eq (Ss.pe_lenSetS rfl (by rfl) ml (by rfl) ms (pv 0)) (pe_callB call_len_seq (by rfl) ml PySem.boot_len (pa_cons (pv 0) pa_nil)) (nomark _)))), ?_⟩
    obtain ⟨ty, y, e1, e2, _⟩ := ty_of (K := K) h
    refine ⟨_, rfl, v, .ty "tuple", ty, .type "tuple", _, rfl, .ty "tuple", y, e2, _, rfl, ?_⟩
    cases h with
    | tup a xs ts ha l z e =>
      refine iteF' rfl ⟨_, rfl, a, xs, rfl, .inr (SqT.of ha), _, _, rfl, rfl, _, rfl, ?_⟩
      by_cases h1 : 1 ≤ ts.length
      · refine iteT' (decide_eq_true (by omega)) ⟨_, rfl, _, _, rfl, rfl, _, rfl, ?_⟩
        by_cases h8 : ts.length ≤ n
        · have e8 : decide ((xs.length : Int) ≤ (n : Int)) = true := decide_eq_true (by omega)
          rw [e8]
          refine iteF' rfl ⟨_, rfl, a, rfl, ⟨xs, SqT.of ha⟩, fun L nL => ?_⟩
          have q0 : ∀ H', Kp H H' → Q (.bl (ts.all nameT && decide (strsOf ts).Nodup)) H' := fun H' g' => by
            have q1 := q H' g'
            unfold namesT at q1
            simp only [decide_eq_true h1, decide_eq_true h8, Bool.true_and] at q1
            exact q1
          refine lc_tup (K := K) (a := a) (xs := xs) (fun i G' => ∃ k, G' L = some (.lst (ones k)) ∧ k ≤ i ∧ (k = 0 ↔ ∀ t ∈ ts.take i, nameT t = true) ∧ Kp H G') ⟨0, upd_same, Nat.le_refl _, ⟨fun _ t ht => by simp at ht, fun _ => rfl⟩, Kp.refl.new nL⟩ (fun i G' _ h => ?_) (fun i x G' hx h => ?_) (fun G' h => ?_)
          · obtain ⟨k, _, _, _, kG'⟩ := h
            exact SqT.of (kG' _ _ ha)
          · obtain ⟨k, hL, hk, hiff, kG'⟩ := h
            have hi : i < ts.length := by rw [← l]; exact (List.getElem?_eq_some_iff.mp hx).1
            obtain ⟨t, ht⟩ : ∃ t, ts[i]? = some t := ⟨ts[i], List.getElem?_eq_getElem hi⟩
            have hth := kG'.th (e i x t hx ht)
            have etk : ts.take (i + 1) = ts.take i ++ [t] := by rw [List.take_add_one, ht]; rfl
            refine ⟨rfl, _, rfl, x, t, rfl, hth, fun H5 k5 => ⟨_, rfl, ?_⟩⟩
            cases hb : nameT t with
            | true =>
              refine iteF' rfl ⟨k, k5 _ _ hL, by omega, ?_, kG'.trans k5⟩
              rw [hiff, etk]
              constructor
              · intro h' t' ht'
                rcases List.mem_append.mp ht' with h2 | h2
                · exact h' t' h2
                · rw [List.mem_singleton.mp h2]; exact hb
              · exact fun h' t' ht' => h' t' (List.mem_append_left _ ht')
            | false =>
              refine iteT' rfl ⟨_, k5 _ _ hL, by unfold ones; rw [List.length_replicate, sizeLine_eq]; omega, k + 1, by rw [upd_same, ones_snoc], by omega, ⟨fun h' => (by omega), fun h' => ?_⟩, (kG'.trans k5).put nL⟩
              have := h' t (by rw [etk]; exact List.mem_append_right _ List.mem_cons_self)
              rw [hb] at this; cases this
          · obtain ⟨k, hL, hk, hiff, kG'⟩ := h
            rw [l, List.take_length] at hiff
            refine ⟨Nat.zero_le _, fun M nM => ⟨.list (onesD k), .list [], .lst (SqL.of ?_) (dp_ones k), .lst (SqL.of upd_same) .nil, ones_shaped k, by decide +kernel, _, rfl, ?_⟩⟩
            · rw [upd_ne (fun y => by rw [← y, hL] at nM; cases nM)]; exact hL
            have k9 := kG'.new (o := .lst []) nM
            generalize upd G' M (.lst []) = G9 at k9
            rw [ones_eq]
            by_cases hk0 : k = 0
            · rw [decide_eq_true hk0]
              refine iteF' rfl ?_
              have al := hiff.mp hk0
              have ea : ts.all nameT = true := List.all_eq_true.mpr al
              have ex := strs_of l e fun t ht => name_str (al t ht)
              have ha3 := k9 _ _ ha
              have ls : (strsOf ts).length = ts.length := by unfold strsOf; rw [List.length_map]
              refine ⟨_, rfl, a, strsOf ts, rfl, .inr (SqT.of (by rw [← ex]; exact ha3)), by omega, _, rfl, a, xs, rfl, .inr (SqT.of ha3), rfl, ?_⟩
              have q1 := q0 G9 k9
              rw [ea, Bool.true_and] at q1
              have e9 : decide (V.int ((Ss.cnt (strsOf ts) (strsOf ts).length : Nat) : Int) = V.int (xs.length : Int)) = decide (strsOf ts).Nodup := by
                have cf := Ss.cnt_full (xs := strsOf ts) (strsOf ts).length (Nat.le_refl _)
                rw [List.take_length] at cf
                by_cases hd : (strsOf ts).Nodup
                · have := cf.mpr hd
                  rw [decide_eq_true hd, this, ls, l, decide_eq_true rfl]
                · rw [decide_eq_false hd]
                  refine decide_eq_false fun y => hd (cf.mp ?_)
                  injection y with y
                  omega
              rw [e9]
              exact q1
            · rw [decide_eq_false hk0]
              refine iteT' rfl ?_
              have q1 := q0 G9 k9
              have ea : ts.all nameT = false := by
                cases ha' : ts.all nameT with
                | false => rfl
                | true => exact absurd (hiff.mpr (List.all_eq_true.mp ha')) hk0
              rw [ea, Bool.false_and] at q1
              exact q1
        · have e8 : decide ((xs.length : Int) ≤ (n : Int)) = false := decide_eq_false (by omega)
          rw [e8]
          refine iteT' rfl ?_
          have q1 := q H Kp.refl
          unfold namesT at q1
          simp only [decide_eq_false h8, Bool.and_false, Bool.false_and] at q1
          exact q1
      · refine iteF' (decide_eq_false (by omega)) ⟨_, rfl, iteT' rfl ?_⟩
        have q1 := q H Kp.refl
        unfold namesT at q1
        simp only [decide_eq_false h1, Bool.false_and] at q1
        exact q1
    | _ => exact iteT' rfl (iteT' rfl (q H Kp.refl))
end
end Ln

set_option Elab.async false
set_option linter.all false
set_option maxRecDepth 100000
set_option maxHeartbeats 2000000
/-! x == () of any tuple; the law's own is_house. -/
namespace Lo
open PySem PySem.Spec PyProof.Rows L2 Sx Rp Dw NdefX GxR Rw Th Kd Gx Nm Hs Pr Ps Lw Lh Lp Lq Ez En An Ah La Lb Li Ln
/-- is it the empty tuple -/
def rEqE (K : PySem.W.Frag) : R2 := fun x y H Q => ∃ a b xs, x = .ref a ∧ y = .ref b ∧ SqT K H a xs ∧ SqT K H b [] ∧ Q (.bl xs.isEmpty) H
theorem op_eqE {X : Cx} (hu : X.A.units < cLine) : OpR X (compareOp .Eq) (rEqE X.K) := by
  intro pins s σ H x y v u Q I rx ry h
  obtain ⟨a, b, xs, rfl, rfl, ha, hb, q⟩ := h
  cases (show v = Value.ref a from rx)
  cases (show u = Value.ref b from ry)
  obtain ⟨us, r1, p1, _⟩ := I.tuple ha
  obtain ⟨ws, r2, p2, _⟩ := I.tuple hb
  cases r2
  show wpAny (model X.prog X.w) X.A (richCompare .Eq (.ref a) (.ref b)) (EP X pins σ Q) X.xe s
  refine PySem.SeqAt.rcIn_tuples (e := fun _ => true) p1 p2 hu (fun j h1 h2 => by simp at h2) ?_
  refine ⟨.bl xs.isEmpty, H, I, ?_, q⟩
  show _ = Value.bool xs.isEmpty
  congr 1
  cases r1 with
  | nil => rfl
  | cons _ _ => simp
abbrev sLHouse : Stmt := topS 51
theorem scLho : FnScope ["thing", "call"] ["thing"] (defScope sLHouse) := ⟨rfl, rfl, rfl, by decide +kernel, rfl, by decide +kernel, by decide +kernel⟩
theorem houseT_tup {t : Th} {cs : List Th} (ht : toldT t "house" 2 = true) (et : Hs.nth 1 t = .tup cs) : houseT t = ((decide (1 ≤ cs.length) && decide (cs.length ≤ 5)) && (cs.all callT && decide (strsOf (cs.map (Hs.nth 1))).Nodup)) := by
  unfold houseT
  rw [ht, et]
  show (true && ((true && cs.all callT) && namesT 5 (.tup (cs.map (Hs.nth 1))))) = _
  unfold namesT
  simp only [List.length_map, Bool.true_and]
  cases ha : cs.all callT with
  | false => simp
  | true =>
    have e : (cs.map (Hs.nth 1)).all nameT = true := List.all_eq_true.mpr fun x hx => by
      obtain ⟨c, hc, rfl⟩ := List.mem_map.mp hx
      have := List.all_eq_true.mp ha c hc
      unfold callT at this
      simp only [Bool.and_eq_true] at this
      exact this.2.1
    rw [e]
    simp
theorem houseT_no {t : Th} (h : toldT t "house" 2 = false) : houseT t = false := by unfold houseT; rw [h]; rfl
theorem houseT_nt {t : Th} (h : (Hs.nth 1 t).isTup = false) : houseT t = false := by unfold houseT; rw [h]; simp
section
variable {P : Program} {w : World} {K : PySem.W.Frag} {mg : Str → Option Value} {base : Heap} {T : List Addr}
theorem ok_lhouse {f g g2 g3 : Addr} {fd gd gd2 gd3 : FuncData} (F : Fun K "_law_is_house" "_law_is_house" sLHouse f fd) (mi : mg "isinstance" = none) (mt : mg "tuple" = none) (ml : mg "len" = none) (ms : mg "set" = none)
    (G : FnOk P w K mg base CX0 1 g gd ["thing", "word", "many"] spTold) (mG : mg "_law_has_head" = some (.ref g)) (kG : PySem.W.keepIn K (.ref g) = true) (bG : Binds K gd ["thing", "word", "many"] [])
    (G2 : FnOk P w K mg base CX0 1 g2 gd2 ["thing"] (spL nameT)) (mG2 : mg "_law_is_name" = some (.ref g2)) (kG2 : PySem.W.keepIn K (.ref g2) = true) (bG2 : Binds K gd2 ["thing"] [])
    (G3 : FnOk P w K mg base CX0 2 g3 gd3 ["thing", "most"] (spLn namesT)) (mG3 : mg "_law_are_names" = some (.ref g3)) (kG3 : PySem.W.keepIn K (.ref g3) = true) (bG3 : Binds K gd3 ["thing", "most"] []) : FnOk P w K mg base CX0 3 f fd ["thing"] (spL houseT) := by
  refine F.ok scLho (fun vs H Q E h => ?_) (fun cdv A outer s H vs Q E hr h => ?_)
  · obtain ⟨v, t, rfl, _⟩ := h
    rfl
  · obtain ⟨v, t, rfl, h, k⟩ := h
    refine ⟨_, pss_cons (ps_if (PW.pt (pw_or (pt_not (pt_val (pe_call G (hr.mono (by decide)) (by rfl) mG kG bG .nil pass0 (pa_cons (pv 0) (pa_cons pe_str (pa_cons pe_int pa_nil)))))) (pw_or (pt_not (pt_val (pe_callB call_isi (by rfl) mi (by decide +kernel) (pa_cons (pe_ix ix_tup (pv 0) pe_int (fun _ _ => rfl)) (pa_cons (pe_bltn (v := .ty "tuple") (by rfl) mt (by decide +kernel) rfl) pa_nil)))))
        (pw_or1 (pt_not (pt_chain op_le op_le pe_int (pe_callB call_len_seq (by rfl) ml PySem.boot_len (pa_cons (pe_ix ix_tup (pv 0) pe_int (fun _ _ => rfl)) pa_nil)) pe_int)))))) (pss_one (ps_ret pe_bl)) pss_nil)
      (pss_cons (ps_for PassesOwn.never rfl (pi_tup (pe_ix ix_tup (pv 0) pe_int (fun _ _ => rfl))) (pg_name (i := 1) scLho.nd rfl (Or.inl rfl))
        (pss_one (ps_if (PW.pt (pw_or (pt_not (pt_val (pe_call G (hr.mono (by decide)) (by rfl) mG kG bG .nil pass0 (pa_cons (pv 1) (pa_cons pe_str (pa_cons pe_int pa_nil)))))) (pw_or (pt_not (pt_val (pe_call G2 (hr.mono (by decide)) (by rfl) mG2 kG2 bG2 .nil pass0 (pa_cons (pe_ix ix_tup (pv 1) pe_int (fun _ _ => rfl)) pa_nil))))
          (pw_or1 (pt_not (pt_val (pe_call G3 hr (by rfl) mG3 kG3 bG3 .nil pass0 (pa_cons (pe_ix ix_tup (pv 1) pe_int (fun _ _ => rfl)) (pa_cons pe_int pa_nil))))))))) (pss_one (ps_ret pe_bl)) pss_nil)))
      (pss_one (ps_ret (pe_cmpR op_eq (Ss.pe_lenSetS rfl (by rfl) ml (by rfl) ms (pe_lc (own := [("call", 1)]) (g := gName 1) (tt := tYes) (te := tOp (rIxT K) (tVar 1) (tC (.int 1))) (by rfl) scLho.nd (pi_tup (pe_ix ix_tup (pv 0) pe_int (fun _ _ => rfl))) (blkOk_by (own := [("call", 1)]) (N := ["thing", "call"]) (sc := defScope sLHouse) (by decide +kernel)) (fun _ _ _ _ _ => pg_name (i := 1) scLho.nd rfl (Or.inl rfl)) (fun _ _ _ _ _ => pts_nil) (fun _ _ _ _ _ => pe_ix ix_tup (pv 1) pe_int (fun _ _ => rfl))))
        (pe_callB call_len_seq (by rfl) ml PySem.boot_len (pa_cons (pe_ix ix_tup (pv 0) pe_int (fun _ _ => rfl)) pa_nil)) (nomark _))))), ?_⟩
    refine ⟨_, rfl, v, t, _, _, rfl, h, by decide, _, rfl, ?_⟩
    cases ht : toldT t "house" 2 with
    | false =>
      have q := k H Kp.refl
      rw [houseT_no ht] at q
      exact iteT' rfl (iteT' rfl q)
    | true =>
      obtain ⟨a, xs, x, rfl, ha, hx, h1⟩ := part1 (n := 2) h ht (by decide)
      refine iteF' rfl ?_
      obtain ⟨ty, y, e1, e2, _⟩ := ty_of (K := K) h1
      refine ⟨_, rfl, a, xs, _, x, rfl, rfl, SqT.of ha, hx, x, .ty "tuple", ty, .type "tuple", _, rfl, .ty "tuple", y, e2, _, rfl, ?_⟩
      cases et : Hs.nth 1 t with
      | tup cs =>
        have eH := houseT_tup ht et
        rw [et] at h1
        cases h1 with
        | tup b ys _ hb l z ey =>
          refine iteF' rfl ⟨_, rfl, a, xs, _, _, rfl, rfl, SqT.of ha, hx, b, ys, rfl, .inr (SqT.of hb), _, _, rfl, rfl, _, rfl, ?_⟩
          by_cases h1 : 1 ≤ cs.length
          · refine iteT' (decide_eq_true (by omega)) ⟨_, _, rfl, rfl, _, rfl, ?_⟩
            by_cases h5 : cs.length ≤ 5
            · have e8 : decide ((ys.length : Int) ≤ 5) = true := decide_eq_true (by omega)
              rw [e8]
              rw [decide_eq_true h1, decide_eq_true h5, Bool.true_and, Bool.true_and] at eH
              refine iteF' rfl ⟨_, rfl, a, xs, _, _, rfl, rfl, SqT.of ha, hx, b, rfl, ⟨ys, SqT.of hb⟩, ?_⟩
              refine for_tup (K := K) (a := b) (xs := ys) (fun i σ G => ∃ o1, σ = [some (.ref a), o1] ∧ Kp H G ∧ ∀ t ∈ cs.take i, callT t = true)
                ⟨none, rfl, Kp.refl, fun t ht => by simp at ht⟩ (fun i σ G _ hI => ?_) (fun i x σ G hx' hI => ?_) (fun σ G hI => ?_)
              · obtain ⟨_, _, g, _⟩ := hI
                exact SqT.of (g _ _ hb)
              · obtain ⟨o1, rfl, g, al⟩ := hI
                have hi : i < cs.length := by rw [← l]; exact (List.getElem?_eq_some_iff.mp hx').1
                obtain ⟨c', hc⟩ : ∃ c', cs[i]? = some c' := ⟨cs[i], List.getElem?_eq_getElem hi⟩
                have hth := g.th (ey i x c' hx' hc)
                have bad : callT c' = false → ∀ G', Kp H G' → Q (.bl false) G' := fun hb' G' g' => by
                  have q := k G' g'
                  have ea : cs.all callT = false := by
                    cases ha' : cs.all callT with
                    | false => rfl
                    | true => rw [List.all_eq_true.mp ha' c' (List.mem_of_getElem? hc)] at hb'; cases hb'
                  rw [eH, ea] at q
                  exact q
                refine ⟨_, rfl, x, c', _, _, rfl, hth, by decide, _, rfl, ?_⟩
                cases hto : toldT c' "call" 3 with
                | false => exact iteT' rfl (iteT' rfl (bad (by unfold callT; rw [hto]; rfl) _ g))
                | true =>
                  obtain ⟨a2, xs2, x2, rfl, ha2, hx2, h2'⟩ := part1 (n := 3) hth hto (by decide)
                  refine iteF' rfl ⟨_, rfl, a2, xs2, _, _, rfl, rfl, SqT.of ha2, hx2, x2, _, rfl, h2', fun G2 k2 => ⟨_, rfl, ?_⟩⟩
                  cases hna : nameT (Hs.nth 1 c') with
                  | false => exact iteT' rfl (iteT' rfl (bad (by unfold callT; rw [hna]; simp) _ (g.trans k2)))
                  | true =>
                    obtain ⟨a3, xs3, x3, e3, ha3, hx3, h3'⟩ := part2 (n := 3) hth hto (by decide)
                    cases e3
                    refine iteF' rfl ⟨_, rfl, a2, xs3, _, _, rfl, rfl, SqT.of (k2 _ _ ha3), hx3, x3, _, 5, rfl, by decide, k2.th h3', fun G3 k3 => ⟨_, rfl, ?_⟩⟩
                    cases hnm : namesT 5 (Hs.nth 2 c') with
                    | false => exact iteT' rfl (bad (by unfold callT; rw [hnm]; simp) _ ((g.trans k2).trans k3))
                    | true =>
                      refine iteF' rfl ⟨_, rfl, (g.trans k2).trans k3, fun t' ht' => ?_⟩
                      rw [List.take_add_one, hc] at ht'
                      rcases List.mem_append.mp ht' with h' | h'
                      · exact al t' h'
                      · have e' : t' = c' := by simpa using h'
                        rw [e']; unfold callT; rw [hto, hna, hnm]; rfl
              · obtain ⟨o1, rfl, g, al⟩ := hI
                rw [l, List.take_length] at al
                have ea : cs.all callT = true := List.all_eq_true.mpr al
                rw [ea, Bool.true_and] at eH
                refine ⟨_, rfl, a, xs, _, _, rfl, rfl, SqT.of (g _ _ ha), hx, b, rfl, ⟨ys, SqT.of (g _ _ hb)⟩, fun L nL => ?_⟩
                refine lc_tup (K := K) (a := b) (xs := ys) (fun i G2 => G2 L = some (.lst ((strsOf ((cs.map (Hs.nth 1)).take i)).map V.str)) ∧ Kp G G2) ⟨upd_same, Kp.refl.new nL⟩ (fun i G2 _ h => SqT.of (h.2 _ _ (g _ _ hb))) (fun i x G2 hxi h => ?_) (fun G2 h => ?_)
                · obtain ⟨hL, kG⟩ := h
                  have hi : i < cs.length := by rw [← l]; exact (List.getElem?_eq_some_iff.mp hxi).1
                  obtain ⟨c', hc⟩ : ∃ c', cs[i]? = some c' := ⟨cs[i], List.getElem?_eq_getElem hi⟩
                  have hth := (g.trans kG).th (ey i x c' hxi hc)
                  have hcall2 := al c' (List.mem_of_getElem? hc)
                  unfold callT at hcall2
                  simp only [Bool.and_eq_true] at hcall2
                  obtain ⟨a2, xs2, x2, rfl, ha2, hx2, h2'⟩ := part1 (n := 3) hth hcall2.1 (by decide)
                  obtain ⟨z, ez⟩ := name_str hcall2.2.1
                  rw [ez] at h2'
                  cases h2' with
                  | str _ hz =>
                    refine ⟨rfl, _, rfl, a2, xs2, _, _, rfl, rfl, SqT.of ha2, hx2, _, hL, ?_, ?_, kG.put nL⟩
                    · rw [List.length_map]
                      unfold strsOf
                      rw [List.length_map, List.length_take, sizeLine_eq]
                      omega
                    · rw [upd_same]
                      congr 2
                      rw [List.take_add_one]
                      have e9 : (cs.map (Hs.nth 1))[i]? = some (Th.str z) := by rw [List.getElem?_map, hc]; show some (Hs.nth 1 c') = _; rw [ez]
                      rw [e9]
                      unfold strsOf
                      rw [List.map_append, List.map_append]; rfl
                · obtain ⟨hL, kG⟩ := h
                  rw [l, show cs.length = (cs.map (Hs.nth 1)).length by rw [List.length_map], List.take_length] at hL
                  have ls : (strsOf (cs.map (Hs.nth 1))).length = cs.length := by unfold strsOf; rw [List.length_map, List.length_map]
                  have gG := g.trans kG
                  refine ⟨L, strsOf (cs.map (Hs.nth 1)), rfl, .inl (SqL.of hL), by omega, _, rfl, a, xs, _, _, rfl, rfl, SqT.of (gG _ _ ha), hx, b, ys, rfl, .inr (SqT.of (gG _ _ hb)), rfl, ?_⟩
                  have q := k G2 gG
                  rw [eH] at q
                  have e9 : decide (V.int ((Ss.cnt (strsOf (cs.map (Hs.nth 1))) (strsOf (cs.map (Hs.nth 1))).length : Nat) : Int) = V.int (ys.length : Int)) = decide (strsOf (cs.map (Hs.nth 1))).Nodup := by
                    have cf := Ss.cnt_full (xs := strsOf (cs.map (Hs.nth 1))) (strsOf (cs.map (Hs.nth 1))).length (Nat.le_refl _)
                    rw [List.take_length] at cf
                    by_cases hd : (strsOf (cs.map (Hs.nth 1))).Nodup
                    · have := cf.mpr hd
                      rw [decide_eq_true hd, this, ls, l, decide_eq_true rfl]
                    · rw [decide_eq_false hd]
                      refine decide_eq_false fun y => hd (cf.mp ?_)
                      injection y with y
                      omega
                  rw [e9]
                  exact q
            · have e8 : decide ((ys.length : Int) ≤ 5) = false := decide_eq_false (by omega)
              rw [e8]
              have q := k H Kp.refl
              rw [eH, decide_eq_false h5, Bool.and_false, Bool.false_and] at q
              exact iteT' rfl q
          · refine iteF' (decide_eq_false (by omega)) ⟨_, rfl, iteT' rfl ?_⟩
            have q := k H Kp.refl
            rw [eH, decide_eq_false h1, Bool.false_and, Bool.false_and] at q
            exact q
      | _ =>
        have q := k H Kp.refl
        rw [houseT_nt (by rw [et]; rfl)] at q
        exact iteT' rfl (iteT' rfl q)
end
end Lo

set_option Elab.async false
set_option linter.all false
set_option maxRecDepth 100000
set_option maxHeartbeats 2000000
/-! the law's own is_program. -/
namespace Lr
open PySem PySem.Spec PyProof.Rows L2 Sx Rp Dw NdefX GxR Rw Th Kd Gx Nm Hs Pr Ps RZ Lw Lh Lp Lq Ez En An Ah La Lb Li Ln Lo
abbrev sLProg : Stmt := topS 53
theorem scLpr : FnScope ["thing", "row", "call", "pair"] ["thing"] (defScope sLProg) := ⟨rfl, rfl, rfl, by decide +kernel, rfl, by decide +kernel, by decide +kernel⟩
theorem progT_no {t : Th} (h : toldT t "program" 3 = false) : progT t = false := by unfold progT; rw [h]; rfl
theorem progT_nh {t : Th} (h : houseT (Hs.nth 1 t) = false) : progT t = false := by unfold progT; rw [h]; simp
theorem progT_nt {t : Th} (h : (Hs.nth 2 t).isTup = false) : progT t = false := by unfold progT; rw [h]; simp
theorem progT_tup {t : Th} {us : List Th} (ht : toldT t "program" 3 = true) (hh : houseT (Hs.nth 1 t) = true) (e : Hs.nth 2 t = .tup us) : progT t = (!us.isEmpty && us.all (rowT (ansOf (Hs.nth 1 t)) (us.length : Int))) := by
  unfold progT
  rw [ht, hh, e]
  show (true && (true && ((true && !us.isEmpty) && us.all _))) = _
  simp only [Bool.true_and]; rfl
theorem allF {α : Type} {l : List α} {f : α → Bool} {x : α} (hx : x ∈ l) (h : f x = false) : l.all f = false := by
  cases e : l.all f with
  | false => rfl
  | true => rw [List.all_eq_true.mp e x hx] at h; cases h
section
variable {P : Program} {w : World} {K : PySem.W.Frag} {mg : Str → Option Value} {base : Heap} {T : List Addr}
theorem ok_lprog {f g g2 g3 : Addr} {fd gd gd2 gd3 : FuncData} (F : Fun K "_law_is_program" "_law_is_program" sLProg f fd) (mi : mg "isinstance" = none) (mt : mg "tuple" = none) (ml : mg "len" = none) (mz : mg "zip" = none) (mS : mg "str" = none)
    (G : FnOk P w K mg base CX0 1 g gd ["thing", "word", "many"] spTold) (mG : mg "_law_has_head" = some (.ref g)) (kG : PySem.W.keepIn K (.ref g) = true) (bG : Binds K gd ["thing", "word", "many"] [])
    (G2 : FnOk P w K mg base CX0 3 g2 gd2 ["thing"] (spL houseT)) (mG2 : mg "_law_is_house" = some (.ref g2)) (kG2 : PySem.W.keepIn K (.ref g2) = true) (bG2 : Binds K gd2 ["thing"] [])
    (G3 : FnOk P w K mg base CX0 1 g3 gd3 ["thing"] spNumber) (mG3 : mg "_law_is_whole" = some (.ref g3)) (kG3 : PySem.W.keepIn K (.ref g3) = true) (bG3 : Binds K gd3 ["thing"] []) : FnOk P w K mg base CX0 4 f fd ["thing"] (spL progT) := by
  refine F.ok scLpr (fun vs H Q E h => ?_) (fun cdv A outer s H vs Q E hr h => ?_)
  · obtain ⟨v, t, rfl, _⟩ := h
    rfl
  · obtain ⟨v, t, rfl, h, k⟩ := h
    refine ⟨_, pss_cons (ps_if (PW.pt (pw_or (pt_not (pt_val (pe_call G (hr.mono (by decide)) (by rfl) mG kG bG .nil pass0 (pa_cons (pv 0) (pa_cons pe_str (pa_cons pe_int pa_nil)))))) (pw_or (pt_not (pt_val (pe_call G2 hr (by rfl) mG2 kG2 bG2 .nil pass0 (pa_cons (pe_ix ix_tup (pv 0) pe_int (fun _ _ => rfl)) pa_nil))))
        (pw_or (pt_not (pt_val (pe_callB call_isi (by rfl) mi (by decide +kernel) (pa_cons (pe_ix ix_tup (pv 0) pe_int (fun _ _ => rfl)) (pa_cons (pe_bltn (v := .ty "tuple") (by rfl) mt (by decide +kernel) rfl) pa_nil)))))
          (pw_or1 (pt_cmpR (op_eqE hr.units0) (pe_ix ix_tup (pv 0) pe_int (fun _ _ => rfl)) (pe_tup pa_nil) (nomark _))))))) (pss_one (ps_ret pe_bl)) pss_nil)
      (pss_cons (ps_for PassesOwn.never rfl (pi_tup (pe_ix ix_tup (pv 0) pe_int (fun _ _ => rfl))) (pg_name (i := 1) scLpr.nd rfl (Or.inl rfl))
        (pss_cons (ps_if (PW.pt (pw_or (pt_not (pt_val (pe_callB call_isi (by rfl) mi (by decide +kernel) (pa_cons (pv 1) (pa_cons (pe_bltn (v := .ty "tuple") (by rfl) mt (by decide +kernel) rfl) pa_nil)))))
          (pw_or1 (pt_cmpR op_ne (pe_callB call_len_seq (by rfl) ml PySem.boot_len (pa_cons (pv 1) pa_nil)) (pe_callB call_len_seq (by rfl) ml PySem.boot_len (pa_cons (pe_ix ix_tup (pe_ix ix_tup (pv 0) pe_int (fun _ _ => rfl)) pe_int (fun _ _ => rfl)) pa_nil)) (nomark _))))) (pss_one (ps_ret pe_bl)) pss_nil)
        (pss_one (ps_for PassesOwn.never rfl (pi_zipA (by rfl) mz (pa_cons (pe_ix ix_tup (pe_ix ix_tup (pv 0) pe_int (fun _ _ => rfl)) pe_int (fun _ _ => rfl)) (pa_cons (pv 1) pa_nil))) (pg_tup rfl (pgs_cons (pg_name (i := 2) scLpr.nd rfl (Or.inl rfl)) (pgs_cons (pg_name (i := 3) scLpr.nd rfl (Or.inl rfl)) pgs_nil)))
          (pss_cons (ps_if (PW.pt (pw_or (pt_not (pt_val (pe_callB call_isi (by rfl) mi (by decide +kernel) (pa_cons (pv 3) (pa_cons (pe_bltn (v := .ty "tuple") (by rfl) mt (by decide +kernel) rfl) pa_nil)))))
            (pw_or (pt_cmpR op_ne (pe_callB call_len_seq (by rfl) ml PySem.boot_len (pa_cons (pv 3) pa_nil)) pe_int (nomark _))
            (pw_or (pt_not (pt_val (pe_callB call_isi (by rfl) mi (by decide +kernel) (pa_cons (pe_ix ix_tup (pv 3) pe_int (fun _ _ => rfl)) (pa_cons (pe_bltn (v := .ty "str") (by rfl) mS (by decide +kernel) rfl) pa_nil)))))
            (pw_or1 (pt_cmpR op_notIn_seq (pe_ix ix_tup (pv 3) pe_int (fun _ _ => rfl)) (pe_ix ix_tup (pv 2) pe_int (fun _ _ => rfl)) (by rfl))))))) (pss_one (ps_ret pe_bl)) pss_nil)
          (pss_one (ps_if (PW.pt (pw_or (pt_not (pt_val (pe_call G3 (hr.mono (by decide)) (by rfl) mG3 kG3 bG3 .nil pass0 (pa_cons (pe_ix ix_tup (pv 3) pe_int (fun _ _ => rfl)) pa_nil))))
            (pw_or1 (pt_not (pt_chain op_le op_lt pe_int (pe_ix ix_tup (pv 3) pe_int (fun _ _ => rfl)) (pe_callB call_len_seq (by rfl) ml PySem.boot_len (pa_cons (pe_ix ix_tup (pv 0) pe_int (fun _ _ => rfl)) pa_nil))))))) (pss_one (ps_ret pe_bl)) pss_nil)))))))
      (pss_one (ps_ret pe_bl))), ?_⟩
    refine ⟨_, rfl, v, t, _, _, rfl, h, by decide, _, rfl, ?_⟩
    cases ht : toldT t "program" 3 with
    | false =>
      have q := k H Kp.refl
      rw [progT_no ht] at q
      exact iteT' rfl (iteT' rfl q)
    | true =>
      obtain ⟨a, xs, x, rfl, ha, hx, h1⟩ := part1 (n := 3) h ht (by decide)
      obtain ⟨a', xs', x2, e', ha', hx2, h2⟩ := part2 (n := 3) h ht (by decide)
      cases e'
      rw [ha] at ha'
      cases ha'
      refine iteF' rfl ⟨_, rfl, a, xs, _, x, rfl, rfl, SqT.of ha, hx, x, _, rfl, h1, fun H2 k2 => ⟨_, rfl, ?_⟩⟩
      cases hh : houseT (Hs.nth 1 t) with
      | false =>
        have q := k H2 k2
        rw [progT_nh hh] at q
        exact iteT' rfl (iteT' rfl q)
      | true =>
        have hP := house_p hh
        obtain ⟨ty, y, e1, e2, _⟩ := ty_of (K := K) (k2.th h2)
        refine iteF' rfl ⟨_, rfl, a, xs, _, x2, rfl, rfl, SqT.of (k2 _ _ ha), hx2, x2, .ty "tuple", ty, .type "tuple", _, rfl, .ty "tuple", y, e2, _, rfl, ?_⟩
        cases et : Hs.nth 2 t with
        | tup us =>
          have eP := progT_tup ht hh et
          rw [et] at h2
          cases h2 with
          | tup b zs _ hb lz z ez =>
            refine iteF' rfl ⟨_, rfl, a, xs, _, _, rfl, rfl, SqT.of (k2 _ _ ha), hx2, Nat.zero_le _, fun p np => ?_⟩
            have k3 := k2.new (o := .tup []) np
            have h3p : (upd H2 p (.tup [])) p = some (.tup []) := upd_same
            generalize upd H2 p (.tup []) = H3 at k3 h3p
            refine ⟨b, p, zs, rfl, rfl, SqT.of (k3 _ _ hb), SqT.of h3p, _, rfl, ?_⟩
            cases us with
            | nil =>
              cases zs with
              | cons _ _ => simp at lz
              | nil =>
                have q := k H3 k3
                rw [eP] at q
                exact iteT' rfl q
            | cons u0 ur =>
              cases zs with
              | nil => simp at lz
              | cons z0 zr =>
              refine iteF' rfl ?_
              have eP' : progT t = (u0 :: ur).all (rowT (ansOf (Hs.nth 1 t)) ((u0 :: ur).length : Int)) := by rw [eP]; rfl
              generalize u0 :: ur = us at *
              generalize z0 :: zr = zs at *
              obtain ⟨ah, xsh, xh, rfl, hah, hxh, hh1⟩ := part1 (n := 2) h1 hP.told (by decide)
              have q1 := hP.tup
              have q2 := hP.calls
              cases eth : Hs.nth 1 (Hs.nth 1 t) with
              | tup cs =>
                rw [eth] at hh1 q1 q2
                have eN : ansOf (Hs.nth 1 t) = cs.map fun c => strsOf (items (Hs.nth 2 c)) := by unfold ansOf; rw [eth]; rfl
                rw [eN] at eP'
                cases hh1 with
                | tup c cv _ hc lc _ ec =>
                  refine ⟨_, rfl, a, xs, _, _, rfl, rfl, SqT.of (k3 _ _ ha), hx2, b, rfl, ⟨zs, SqT.of (k3 _ _ hb)⟩, ?_⟩
                  refine for_tup (K := K) (a := b) (xs := zs) (fun i σ G => ∃ o1 o2 o3, σ = [some (.ref a), o1, o2, o3] ∧ Kp H G ∧ ∀ r ∈ us.take i, rowT (cs.map fun c => strsOf (items (Hs.nth 2 c))) (us.length : Int) r = true)
                    ⟨none, none, none, rfl, k3, fun t ht => by simp at ht⟩ (fun i σ G _ hI => ?_) (fun i x σ G hx' hI => ?_) (fun σ G hI => ?_)
                  · obtain ⟨_, _, _, _, g, _⟩ := hI
                    exact SqT.of (g _ _ hb)
                  · obtain ⟨o1, o2, o3, rfl, g, al⟩ := hI
                    have hi : i < us.length := by rw [← lz]; exact (List.getElem?_eq_some_iff.mp hx').1
                    obtain ⟨r, hr'⟩ : ∃ r, us[i]? = some r := ⟨us[i], List.getElem?_eq_getElem hi⟩
                    have hth := g.th (ez i x r hx' hr')
                    have bad : rowT (cs.map fun c => strsOf (items (Hs.nth 2 c))) (us.length : Int) r = false → ∀ G', Kp H G' → Q (.bl false) G' := fun hb' G' g' => by
                      have q := k G' g'
                      rw [eP', allF (List.mem_of_getElem? hr') hb'] at q
                      exact q
                    obtain ⟨ty, y, e1, e2, _⟩ := ty_of (K := K) hth
                    refine ⟨_, rfl, x, .ty "tuple", ty, .type "tuple", _, rfl, .ty "tuple", y, e2, _, rfl, ?_⟩
                    cases hth with
                    | tup ar rv ps har lr _ er =>
                      refine iteF' rfl ⟨_, rfl, ar, rv, rfl, .inr (SqT.of har), _, rfl, a, xs, _, _, rfl, rfl, SqT.of (g _ _ ha), hx, ah, xsh, _, _, rfl, rfl, SqT.of (g _ _ hah), hxh, c, cv, rfl, .inr (SqT.of (g _ _ hc)), rfl, _, rfl, ?_⟩
                      by_cases hlen : rv.length = cv.length
                      · refine iteF' (by rw [hlen]; simp) ?_
                        refine ⟨_, rfl, a, xs, _, _, rfl, rfl, SqT.of (g _ _ ha), hx, ah, xsh, _, _, rfl, rfl, SqT.of (g _ _ hah), hxh, _, rfl, c, ar, cv, rv, rfl, .inr ⟨SqT.of (g _ _ hc), SqT.of har, ?_⟩⟩
                        have etu : tupOf (.tup ps) (((cs.map fun c => strsOf (items (Hs.nth 2 c))).length : Nat) : Int) = true := by
                          show decide _ = true
                          rw [List.length_map]
                          exact decide_eq_true (by omega)
                        refine for_zipT (K := K) (a := c) (b := ar) (xs := cv) (ys := rv) (by omega) (fun j σ G2 => ∃ o2 o3, σ = [some (.ref a), some (.ref ar), o2, o3] ∧ Kp G G2 ∧ ∀ p ∈ ((cs.map fun c => strsOf (items (Hs.nth 2 c))).zip ps).take j, entryT p.1 (us.length : Int) p.2 = true)
                          ⟨o2, o3, rfl, Kp.refl, fun t ht => by simp at ht⟩ (fun j σ G2 hJ => ?_) (fun j xc yp TT σ G2 hxc hyp hJ nT => ?_) (fun σ G2 hJ => ?_)
                        · obtain ⟨_, _, _, g2, _⟩ := hJ
                          exact ⟨SqT.of (g2 _ _ (g _ _ hc)), SqT.of (g2 _ _ har)⟩
                        · obtain ⟨o2, o3, rfl, g2, al2⟩ := hJ
                          have hj : j < cs.length := by rw [← lc]; exact (List.getElem?_eq_some_iff.mp hxc).1
                          have hj2 : j < ps.length := by rw [← lr]; exact (List.getElem?_eq_some_iff.mp hyp).1
                          obtain ⟨c', hc'⟩ : ∃ c', cs[j]? = some c' := ⟨cs[j], List.getElem?_eq_getElem hj⟩
                          obtain ⟨p', hp'⟩ : ∃ p', ps[j]? = some p' := ⟨ps[j], List.getElem?_eq_getElem hj2⟩
                          have gT := (g.trans g2).new (o := .tup [xc, yp]) nT
                          have g2T := g2.new (o := .tup [xc, yp]) nT
                          have hTT : (upd G2 TT (.tup [xc, yp])) TT = some (.tup [xc, yp]) := upd_same
                          generalize upd G2 TT (.tup [xc, yp]) = G3 at gT g2T hTT
                          have hthc := gT.th (ec j xc c' hxc hc')
                          have hthp := g2T.th (er j yp p' hyp hp')
                          have ezip : ((cs.map fun c => strsOf (items (Hs.nth 2 c))).zip ps)[j]? = some (strsOf (items (Hs.nth 2 c')), p') := by
                            rw [List.getElem?_zip_eq_some]
                            exact ⟨by rw [List.getElem?_map, hc']; rfl, hp'⟩
                          have bad2 : entryT (strsOf (items (Hs.nth 2 c'))) (us.length : Int) p' = false → ∀ G', Kp H G' → Q (.bl false) G' := fun hb' G' g' => by
                            refine bad ?_ G' g'
                            unfold rowT
                            rw [show ((cs.map fun c => strsOf (items (Hs.nth 2 c))).zip (items (.tup ps))).all (fun p => entryT p.1 (us.length : Int) p.2) = false from allF (List.mem_of_getElem? ezip) hb', Bool.and_false]
                          have hcall := List.all_eq_true.mp q2 c' (List.mem_of_getElem? hc')
                          unfold callT at hcall
                          simp only [Bool.and_eq_true] at hcall
                          obtain ⟨a3, xs3, x3, rfl, ha3, hx3, h3'⟩ := part2 (n := 3) hthc hcall.1 (by decide)
                          cases e2c : Hs.nth 2 c' with
                          | tup us2 =>
                            rw [e2c] at h3' bad2
                            have hnm := hcall.2.2
                            rw [e2c] at hnm
                            obtain ⟨an, rfl⟩ : ∃ an, x3 = V.ref an := by cases h3'; exact ⟨_, rfl⟩
                            have han := names_at h3' (names_all hnm)
                            refine ⟨TT, _, rfl, SqT.of hTT, rfl, _, _, rfl, _, _, rfl, rfl, ?_⟩
                            obtain ⟨ty, y, e1, e2, _⟩ := ty_of (K := K) hthp
                            refine ⟨_, rfl, yp, .ty "tuple", ty, .type "tuple", _, rfl, .ty "tuple", y, e2, _, rfl, ?_⟩
                            cases hthp with
                            | tup ap pv' pt' hap lp _ ep =>
                              refine iteF' rfl ⟨_, rfl, ap, pv', rfl, .inr (SqT.of hap), rfl, _, rfl, ?_⟩
                              by_cases hl2 : pv'.length = 2
                              · refine iteF' (by rw [hl2]; rfl) ?_
                                match pv', pt', lp, hl2 with
                                | [y0, y1], [t0, t1], _, _ =>
                                  have hy0 := ep 0 y0 t0 rfl rfl
                                  have hy1 := ep 1 y1 t1 rfl rfl
                                  obtain ⟨ty, y, e1, e2, _⟩ := ty_of (K := K) hy0
                                  have eE : entryT (strsOf (items (.tup us2))) (us.length : Int) (.tup [t0, t1]) = (amongT t0 ((strsOf us2).map V.str) && idxT t1 (us.length : Int)) := rfl
                                  refine ⟨_, rfl, ap, _, _, _, rfl, rfl, SqT.of hap, at0, y0, .ty "str", ty, .type "str", _, rfl, .ty "str", y, e1, _, rfl, ?_⟩
                                  cases hy0 with
                                  | str s0 hs0 =>
                                    refine iteF' rfl ⟨_, rfl, ap, _, _, _, rfl, rfl, SqT.of hap, at0, _, rfl, a3, xs3, _, _, rfl, rfl, SqT.of ha3, hx3, an, (strsOf us2).map V.str, rfl, .inr (SqT.of han), rfl, strs_flat _, _, rfl, ?_⟩
                                    show if (!inV (.str ⟨s0.toArray⟩) ((strsOf us2).map V.str)) = true then _ else _
                                    cases hin : inV (.str ⟨s0.toArray⟩) ((strsOf us2).map V.str) with
                                    | false => exact iteT' rfl (bad2 (by rw [eE]; show (inV (.str ⟨s0.toArray⟩) _ && _) = false; rw [hin]; rfl) _ gT)
                                    | true =>
                                      refine iteF' rfl ?_
                                      refine ⟨_, rfl, ap, _, _, _, rfl, rfl, SqT.of hap, at1, y1, t1, rfl, hy1, _, rfl, ?_⟩
                                      cases hy1 with
                                      | int i1 =>
                                        refine iteF' rfl ⟨_, rfl, ap, _, _, _, rfl, rfl, SqT.of hap, at1, _, _, rfl, rfl, _, rfl, ?_⟩
                                        have eI : entryT (strsOf (items (.tup us2))) (us.length : Int) (.tup [.str s0, .int i1]) = (decide (0 ≤ i1) && decide (i1 < (us.length : Int))) := by
                                          rw [eE]; show (inV (.str ⟨s0.toArray⟩) _ && _) = _; rw [hin]; rfl
                                        by_cases h0 : 0 ≤ i1
                                        · refine iteT' (decide_eq_true h0) ⟨_, rfl, a, xs, _, _, rfl, rfl, SqT.of (gT _ _ ha), hx2, b, zs, rfl, .inr (SqT.of (gT _ _ hb)), _, _, rfl, rfl, _, rfl, ?_⟩
                                          by_cases hlt : i1 < (us.length : Int)
                                          · refine iteF' (by rw [lz, decide_eq_true hlt]; rfl) ⟨_, _, rfl, g2T, fun p hp => ?_⟩
                                            rw [List.take_add_one, ezip] at hp
                                            rcases List.mem_append.mp hp with h' | h'
                                            · exact al2 p h'
                                            · have e' : p = (strsOf (items (Hs.nth 2 c')), Th.tup [.str s0, .int i1]) := by simpa using h'
                                              rw [e', e2c, eI, decide_eq_true h0, decide_eq_true hlt]; rfl
                                          · refine iteT' (by rw [lz, decide_eq_false hlt]; rfl) (bad2 ?_ _ gT)
                                            rw [eI, decide_eq_false hlt, Bool.and_false]
                                        · refine iteF' (decide_eq_false h0) ⟨_, rfl, iteT' rfl (bad2 ?_ _ gT)⟩
                                          rw [eI, decide_eq_false h0, Bool.false_and]
                                      | _ => exact iteT' rfl (iteT' rfl (bad2 (by rw [eE]; exact Bool.and_false _) _ gT))
                                  | _ => exact iteT' rfl (iteT' rfl (bad2 (by rw [eE]; rfl) _ gT))
                              · refine iteT' (by show (!decide (V.int (pv'.length : Int) = V.int 2)) = true; rw [decide_eq_false (fun y => hl2 (by injection y with y; omega))]; rfl) (iteT' rfl (bad2 ?_ _ gT))
                                unfold entryT
                                rw [show tupOf (.tup pt') 2 = false from decide_eq_false (by omega), Bool.false_and]
                            | _ => exact iteT' rfl (iteT' rfl (bad2 rfl _ gT))
                          | _ =>
                            have hnm := hcall.2.2
                            rw [e2c] at hnm
                            cases hnm
                        · obtain ⟨o2, o3, rfl, g2, al2⟩ := hJ
                          refine ⟨_, _, _, rfl, g.trans g2, fun r2 hr2 => ?_⟩
                          rw [List.take_add_one, hr'] at hr2
                          rcases List.mem_append.mp hr2 with h' | h'
                          · exact al r2 h'
                          · have e' : r2 = .tup ps := by simpa using h'
                            rw [e']
                            unfold rowT
                            rw [etu, Bool.true_and]
                            refine List.all_eq_true.mpr fun p hp => al2 p ?_
                            rw [List.take_of_length_le (by rw [List.length_zip, List.length_map]; omega)]
                            exact hp
                      · refine iteT' (by show (!decide (V.int (rv.length : Int) = V.int (cv.length : Int))) = true; rw [decide_eq_false (fun y => hlen (by injection y with y; omega))]; rfl) (bad ?_ _ g)
                        unfold rowT
                        rw [show tupOf (.tup ps) (((cs.map fun c => strsOf (items (Hs.nth 2 c))).length : Nat) : Int) = false from decide_eq_false (by rw [List.length_map]; omega), Bool.false_and]
                    | _ => exact iteT' rfl (iteT' rfl (bad rfl _ g))
                  · obtain ⟨o1, o2, o3, rfl, g, al⟩ := hI
                    rw [lz, List.take_length] at al
                    have q := k G g
                    rw [eP', List.all_eq_true.mpr al] at q
                    exact q
              | _ => rw [eth] at q1; cases q1
        | _ =>
          have q := k H2 k2
          rw [progT_nt (by rw [et]; rfl)] at q
          exact iteT' rfl (iteT' rfl q)
end
end Lr

set_option Elab.async false
set_option linter.all false
set_option maxRecDepth 100000
set_option maxHeartbeats 2000000
/-! t[::-1] of a tuple. -/
namespace Sb
open PySem PySem.Spec PyProof.Rows L2 HT
theorem adj_back (n : Nat) : Builtin.Slice.sliceAdjust none none (-1) (n : Int) = ((n : Int) - 1, -1) := by
  unfold Builtin.Slice.sliceAdjust
  have h1 : ((-1 : Int) < 0) := by omega
  simp [h1]
theorem places_back (n : Nat) : Builtin.Slice.slicePlaces ((n : Int) - 1) (-1) (-1) = n := by
  unfold Builtin.Slice.slicePlaces
  have h1 : ¬ ((-1 : Int) > 0) := by omega
  simp only [h1, if_false]
  cases n with
  | zero => decide
  | succ k =>
    split
    · rename_i h
      simp at h ⊢
    · rename_i h
      simp at h
      omega
theorem pick_back (l : List Value) : ((List.range l.length).filterMap fun (m : Nat) => l.toArray[(((l.length : Int) - 1) + (m : Int) * (-1)).toNat]?) = l.reverse := by
  refine List.ext_getElem? fun i => ?_
  have gen : ∀ (r : List Nat), (∀ m ∈ r, m < l.length) → (r.filterMap fun (m : Nat) => l.toArray[(((l.length : Int) - 1) + (m : Int) * (-1)).toNat]?) = r.map fun m => l.getD (l.length - 1 - m) .none := by
    intro r
    induction r with
    | nil => intro _; rfl
    | cons m r ih =>
      intro hr
      have hm' := hr m List.mem_cons_self
      have e2 : (((l.length : Int) - 1) + (m : Int) * (-1)).toNat = l.length - 1 - m := by omega
      have hlt : l.length - 1 - m < l.length := by omega
      rw [List.filterMap_cons, e2, List.map_cons, ← ih fun x hx => hr x (List.mem_cons_of_mem _ hx)]
      simp [hlt]
  have e := gen (List.range l.length) fun m hm => List.mem_range.mp hm
  rw [e]
  by_cases hi : i < l.length
  · rw [List.getElem?_map, List.getElem?_range hi, List.getElem?_reverse hi]
    have hlt : l.length - 1 - i < l.length := by omega
    simp [hlt]
  · rw [List.getElem?_eq_none (by simpa using Nat.le_of_not_lt hi), List.getElem?_eq_none (by simpa using Nat.le_of_not_lt hi)]
section
variable {prog : Program} {w : World} {A : Around} {E : Value → Shared → Prop} {s : Shared}
theorem applied_back {sl : Addr} {vs : Value} {n : Nat} {Q : Int × Int × Nat → Shared → Prop} (hs : s.heap.IsSliceOf sl .none .none vs) (ps : IsPart vs (some (-1)))
    (h : Q ((n : Int) - 1, -1, n) s) : wpAny (model prog w) A (Builtin.Slice.sliceApplied (.ref sl) (pure (n : Int))) Q E s := by
  obtain ⟨os, hos, hcs, hds⟩ := id hs
  unfold Builtin.Slice.sliceApplied Builtin.Slice.sliceFields
  refine wpAny_bind (wpAny_bind (wpAny_field hos hds (x := .none) rfl (wpAny_bind (wpAny_field hos hds (x := .none) rfl (wpAny_bind (wpAny_field hos hds (x := vs) rfl (wpAny_pure ?_)))))))
  refine wpAny_bind (slicePart_ ps ?_)
  show wpAny _ _ (if ((-1 : Int) == 0) = true then _ else _) _ _ s
  rw [if_neg (by decide)]
  refine wpAny_bind (slicePart_none (wpAny_bind (slicePart_none (wpAny_bind (wpAny_pure ?_)))))
  show wpAny _ _ (match Builtin.Slice.sliceAdjust none none (-1) (n : Int) with | (lo, hi) => pure (lo, (-1 : Int), Builtin.Slice.slicePlaces lo hi (-1))) _ _ s
  rw [adj_back n]
  show wpAny _ _ (pure (((n : Int) - 1), (-1 : Int), Builtin.Slice.slicePlaces ((n : Int) - 1) (-1) (-1))) _ _ s
  rw [places_back]
  exact wpAny_pure h
theorem getItem_tuple_back {t sl : Addr} {items : List Value} {vs : Value} {Q : Value → Shared → Prop} (ht : IsTup s.heap t items.toArray) (hs : s.heap.IsSliceOf sl .none .none vs) (ps : IsPart vs (some (-1)))
    (h : Q (.ref s.heap.objs.size) { s with heap := s.heap.push { cls := .type "tuple", data := .seq items.reverse.toArray } })
    (hsz : items.length ≤ sizeLine) : wpAny (model prog w) A (getItem (.ref t) (.ref sl)) Q E s := by
  have htake : sizeOk (.seq items.reverse.toArray) := by
    show items.reverse.toArray.size ≤ sizeLine
    rw [List.size_toArray, List.length_reverse]
    exact hsz
  obtain ⟨os, hos, hcs, hds⟩ := id hs
  have hTs : s.TypeIs (.ref sl) "slice" := ⟨os, hos, hcs⟩
  unfold getItem
  try with_reducible refine wpAny_holding ?_
  first | refine wpAny_bind (wpAny_pure ?_) | skip
  refine wpAny_bind (wpAny_sequenceKey ht.typeIs (by decide) ?_)
  refine wpAny_bind (wpAny_callSpecial?_slot (name := Str.ofString "__getitem__") ht.typeIs PyProof.Rows.slot_tuple_getitem
    (wpAny_call_entry PyProof.Rows.slot_tuple_getitem ht.typeIs entry_tuple_getitem ?_ (args_tuple_getitem _ _)))
  show wpAny _ _ (Builtin.Tuple.tupleItemsOf (.ref t) >>= _) _ _ s
  refine wpAny_bind (tupleItemsOf_ ht ?_)
  refine wpAny_bind (wpAny_typeOf hTs ?_)
  rw [if_pos (by decide)]
  refine wpAny_bind (applied_back hs ps ?_)
  have hno : ¬ ((((items.toArray.size : Int) - 1) == 0 && (-1 : Int) == 1 && items.toArray.size == items.toArray.size) = true) := by
    intro q
    rw [Bool.and_eq_true, Bool.and_eq_true] at q
    exact absurd q.1.2 (by decide)
  show wpAny _ _ (if (((items.toArray.size : Int) - 1) == 0 && (-1 : Int) == 1 && items.toArray.size == items.toArray.size) = true then _ else _) _ _ s
  rw [if_neg hno]
  have e := pick_back items
  have e2 : items.toArray.size = items.length := List.size_toArray
  rw [e2]
  rw [show (List.filterMap (fun (m : Nat) => items.toArray[(((items.length : Int) - 1) + (m : Int) * (-1)).toNat]?) (List.range items.length)) = items.reverse from e]
  first
    | exact wpAny_bind (m := Builtin.Tuple.tupleExact _) (wpAny_newObj_type (wpAny_pure ⟨_, rfl, wpAny_pure h⟩) htake)
    | exact wpAny_bind (m := Builtin.Tuple.tupleExact _) (wpAny_newObj_type (wpAny_bind (wpAny_pure (wpAny_pure ⟨_, rfl, wpAny_pure h⟩))) htake)
    | exact wpAny_bind (wpAny_bind (m := Builtin.Tuple.tupleExact _) (wpAny_newObj_type (wpAny_pure (wpAny_pure ⟨_, rfl, wpAny_pure h⟩)) htake))
    | exact wpAny_bind (wpAny_bind (m := Builtin.Tuple.tupleExact _) (wpAny_newObj_type (wpAny_pure ⟨_, rfl, wpAny_pure h⟩) htake))
end
section
variable {X : Cx}
def tRevT (K : PySem.W.Frag) (te : TE) : TE := fun σ H Q => te σ H fun x H1 => ∃ a xs, x = .ref a ∧ SqT K H1 a xs ∧ ∀ p, H1 p = none → Q (.ref p) (upd H1 p (.tup xs.reverse))
theorem pe_revT {e : Expr} {te : TE} {k : Nat} {p1 p2 p3 pos : Pos} (he : PE X e te) : PE X (.Subscript e (.Slice none none (some (.UnaryOp .USub (.Constant (.int 1) k p1) p2)) p3) pos) (tRevT X.K te) := by
  refine ⟨fun pins s σ H Q I h => ?_⟩
  refine Subscript_ (thn (he.run pins s σ H _ I h) fun v s1 ⟨x, H1, I1, r1, q1⟩ => ?_)
  obtain ⟨a, xs, ex, hx, q⟩ := q1
  subst ex
  cases r1
  have hst : PO X (some (.UnaryOp .USub (.Constant (.int 1) k p1) p2)) (tPart (tUn (rU fun i => .int (-i)) (tC (.int 1)))) := po_some (pe_un un_neg pe_int)
  refine wpAny_Slice (thn (po_none.run pins s1 σ H1 (fun o H2 => o = none ∧ H2 = H1) I1 ⟨rfl, rfl⟩) fun vl s2 ⟨l, H2, I2, pl, el, e2⟩ => ?_)
  subst el e2
  refine thn (po_none.run pins s2 σ H2 (fun o H3 => o = none ∧ H3 = H2) I2 ⟨rfl, rfl⟩) fun vu s3 ⟨u, H3, I3, pu, eu, e3⟩ => ?_
  subst eu e3
  refine thn (hst.run pins s3 σ H3 (fun o H4 => o = some (-1) ∧ H4 = H3) I3 ⟨1, rfl, -1, rfl, rfl, rfl⟩) fun vs s4 ⟨o, H4, I4, ps, eo, e4⟩ => ?_
  subst eo e4
  cases pl
  cases pu
  have I5 : Inv X pins σ H4 { s4 with heap := s4.heap.push { cls := .type "slice", data := .fields #[.none, .none, vs] } } := I4.kept (t' := s4.toks) fun b ob q => Heap.get?_push_of_some _ q
  obtain ⟨its, r, ht, hz⟩ := I5.tuple hx
  have hlen := r.length
  show wpAny (model X.prog X.w) X.A (subscriptTail e (.Slice none none (some (.UnaryOp .USub (.Constant (.int 1) k p1) p2)) p3) (.ref a) (.ref s4.heap.objs.size)) (EP X pins σ Q) X.xe { s4 with heap := s4.heap.push { cls := .type "slice", data := .fields #[.none, .none, vs] } }
  refine tail_any (ops := [.ref a, .ref s4.heap.objs.size]) ht.typeIs PyProof.Rows.slot_tuple_getitem.lookup ?_ (by with_unfolding_all rfl)
  refine getItem_tuple_back ht (Heap.IsSliceOf.new _ .none .none vs) ps ?_ (by omega)
  refine ⟨.ref _, _, I5.laid (t' := s4.toks) (o := .tup xs.reverse) (fun b ob q => Heap.get?_push_of_some _ q) (Nat.le_refl _) ?_, rfl, q _ (I5.hok.fresh (Nat.le_refl _))⟩
  exact ⟨by rw [List.length_reverse]; exact hz, _, r.reverse, IsTup.new _ _⟩
end
end Sb

set_option Elab.async false
set_option linter.all false
set_option maxRecDepth 100000
set_option maxHeartbeats 2000000
/-! paths in things; sizes; tuples cut and joined. -/
namespace Pa
open PySem PySem.Spec PyProof.Rows L2 Sx Rp Dw NdefX GxR Rw Th Kd Gx Nm Hs Pr Ps RZ Lw Lh Lp Lq Ez En An Ah La Lb Li Ln Lo Lr Sb
/-! ### sizes -/
mutual
def sz : Th → Nat
  | .tup ts => szs ts + 1
  | .non => 1
  | .bl _ => 1
  | .int _ => 1
  | .str _ => 1
  | .oth => 1
def szs : List Th → Nat
  | [] => 0
  | t :: r => sz t + szs r
end
mutual
def lf (l : Nat) : Th → Bool
  | .tup ts => lfs l ts
  | .non => true
  | .bl _ => true
  | .int i => decide (i.natAbs ≤ l)
  | .str z => decide (z.length ≤ l)
  | .oth => true
def lfs (l : Nat) : List Th → Bool
  | [] => true
  | t :: r => lf l t && lfs l r
end
theorem sz_pos (t : Th) : 1 ≤ sz t := by cases t <;> simp [sz]
theorem sz_tup (ts : List Th) : sz (.tup ts) = szs ts + 1 := by simp [sz]
theorem szs_cons (t : Th) (r : List Th) : szs (t :: r) = sz t + szs r := by simp [szs]
theorem szs_nil : szs [] = 0 := by simp [szs]
theorem szs_append : ∀ a b : List Th, szs (a ++ b) = szs a + szs b
  | [], b => by simp [szs_nil]
  | t :: r, b => by rw [List.cons_append, szs_cons, szs_cons, szs_append r b, Nat.add_assoc]
theorem szs_len : ∀ ts : List Th, ts.length ≤ szs ts
  | [] => Nat.zero_le _
  | t :: r => by have := szs_len r; have := sz_pos t; rw [szs_cons, List.length_cons]; omega
theorem szs_at {ts : List Th} {k : Nat} {u : Th} (h : ts[k]? = some u) : szs ts = szs (ts.take k) + sz u + szs (ts.drop (k + 1)) := by
  have hk := (List.getElem?_eq_some_iff.mp h).1
  have e : ts = ts.take k ++ (u :: ts.drop (k + 1)) := by
    have e1 := (List.take_append_drop k ts).symm
    rw [List.drop_eq_getElem_cons hk, (List.getElem?_eq_some_iff.mp h).2] at e1
    exact e1
  have e2 := congrArg szs e
  rw [szs_append, szs_cons] at e2
  omega
theorem lf_tup (l : Nat) (ts : List Th) : lf l (.tup ts) = lfs l ts := by simp [lf]
theorem lfs_all (l : Nat) : ∀ ts : List Th, lfs l ts = ts.all (lf l)
  | [] => by simp [lfs]
  | t :: r => by simp [lfs, lfs_all l r]
theorem lf_mono {l m : Nat} (hm : l ≤ m) : ∀ n (t : Th), sz t ≤ n → lf l t = true → lf m t = true := by
  intro n
  induction n with
  | zero => intro t h; have := sz_pos t; omega
  | succ n ih =>
    intro t h hl
    cases t with
    | tup ts =>
      rw [lf_tup, lfs_all] at hl ⊢
      rw [sz_tup] at h
      refine List.all_eq_true.mpr fun x hx => ih x ?_ (List.all_eq_true.mp hl x hx)
      obtain ⟨i, hi⟩ := List.mem_iff_getElem?.mp hx
      have := szs_at hi
      omega
    | int i => simp [lf] at hl ⊢; omega
    | str z => simp [lf] at hl ⊢; omega
    | _ => simp [lf]
/-! ### paths -/
def kid : Th → Nat → Option Th | .tup ts, k => ts[k]? | _, _ => none
def pAt : Th → List Nat → Option Th
  | t, [] => some t
  | t, k :: r => (kid t k).bind fun u => pAt u r
def pPut : Th → List Nat → Th → Th
  | _, [], u => u
  | .tup ts, k :: r, u => .tup (ts.take k ++ (pPut (ts.getD k .non) r u :: ts.drop (k + 1)))
  | t, _ :: _, _ => t
theorem pAt_snoc : ∀ (p : List Nat) (t : Th) (k : Nat), pAt t (p ++ [k]) = (pAt t p).bind fun u => kid u k
  | [], t, k => by
    show (kid t k).bind (fun u => some u) = kid t k
    cases kid t k <;> rfl
  | j :: r, t, k => by
    show (kid t j).bind (fun u => pAt u (r ++ [k])) = ((kid t j).bind fun u => pAt u r).bind _
    cases kid t j with
    | none => rfl
    | some u => exact pAt_snoc r u k
theorem kid_tup {t u : Th} {k : Nat} (h : kid t k = some u) : ∃ ts, t = .tup ts ∧ ts[k]? = some u := by
  cases t with
  | tup ts => exact ⟨ts, rfl, h⟩
  | _ => cases h
theorem kid_sz {t u : Th} {k : Nat} (h : kid t k = some u) : sz u + 1 ≤ sz t := by
  obtain ⟨ts, rfl, h⟩ := kid_tup h
  have := szs_at h
  rw [sz_tup]; omega
theorem pAt_sz : ∀ (p : List Nat) {t u : Th}, pAt t p = some u → sz u + p.length ≤ sz t
  | [], t, u, h => by cases h; simp
  | k :: r, t, u, h => by
    obtain ⟨u0, h1, h2⟩ := Option.bind_eq_some_iff.mp h
    have := kid_sz h1
    have := pAt_sz r h2
    rw [List.length_cons]; omega
theorem pAt_lf (l : Nat) : ∀ (p : List Nat) {t u : Th}, pAt t p = some u → lf l t = true → lf l u = true
  | [], t, u, h, hl => by cases h; exact hl
  | k :: r, t, u, h, hl => by
    obtain ⟨u0, h1, h2⟩ := Option.bind_eq_some_iff.mp h
    obtain ⟨ts, rfl, h1⟩ := kid_tup h1
    rw [lf_tup, lfs_all] at hl
    exact pAt_lf l r h2 (List.all_eq_true.mp hl u0 (List.mem_of_getElem? h1))
theorem put_sz : ∀ (p : List Nat) {t u0 : Th} (u : Th), pAt t p = some u0 → sz (pPut t p u) ≤ sz t + sz u
  | [], t, u0, u, h => by show sz u ≤ _; omega
  | k :: r, t, u0, u, h => by
    obtain ⟨u1, h1, h2⟩ := Option.bind_eq_some_iff.mp h
    obtain ⟨ts, rfl, h1'⟩ := kid_tup h1
    have e : ts.getD k .non = u1 := by rw [List.getD_eq_getElem?_getD, h1']; rfl
    have ih := put_sz r u h2
    have := szs_at h1'
    show sz (.tup (ts.take k ++ (pPut (ts.getD k .non) r u :: ts.drop (k + 1)))) ≤ _
    rw [e, sz_tup, sz_tup, szs_append, szs_cons]
    omega
theorem put_lf (l : Nat) : ∀ (p : List Nat) {t u0 : Th} (u : Th), pAt t p = some u0 → lf l t = true → lf l u = true → lf l (pPut t p u) = true
  | [], t, u0, u, h, _, hu => hu
  | k :: r, t, u0, u, h, hl, hu => by
    obtain ⟨u1, h1, h2⟩ := Option.bind_eq_some_iff.mp h
    obtain ⟨ts, rfl, h1'⟩ := kid_tup h1
    have e : ts.getD k .non = u1 := by rw [List.getD_eq_getElem?_getD, h1']; rfl
    rw [lf_tup, lfs_all] at hl
    have h9 := List.all_eq_true.mp hl
    have ih := put_lf l r u h2 (h9 u1 (List.mem_of_getElem? h1')) hu
    show lf l (.tup (ts.take k ++ (pPut (ts.getD k .non) r u :: ts.drop (k + 1)))) = true
    rw [e, lf_tup, lfs_all, List.all_append, List.all_cons, ih]
    refine Bool.and_eq_true_iff.mpr ⟨List.all_eq_true.mpr fun x hx => h9 x (List.mem_of_mem_take hx), Bool.and_eq_true_iff.mpr ⟨rfl, List.all_eq_true.mpr fun x hx => h9 x (List.mem_of_mem_drop hx)⟩⟩
/-! ### rows of things -/
def Eth (H : Hp) (xs : List V) (ts : List Th) : Prop := xs.length = ts.length ∧ ∀ (i : Nat) (v : V) (t : Th), xs[i]? = some v → ts[i]? = some t → IsTh H v t
theorem Eth.keep {H G : Hp} (k : Kp H G) {xs : List V} {ts : List Th} (h : Eth H xs ts) : Eth G xs ts := ⟨h.1, fun i v t a b => k.th (h.2 i v t a b)⟩
theorem Eth.nil {H : Hp} : Eth H [] [] := ⟨rfl, fun i v t a _ => by simp at a⟩
theorem Eth.one {H : Hp} {v : V} {t : Th} (h : IsTh H v t) : Eth H [v] [t] := ⟨rfl, fun i v' t' a b => by
  match i, a, b with
  | 0, a, b => cases a; cases b; exact h⟩
theorem Eth.append {H : Hp} {xs ys : List V} {ts us : List Th} (a : Eth H xs ts) (b : Eth H ys us) : Eth H (xs ++ ys) (ts ++ us) := by
  refine ⟨by rw [List.length_append, List.length_append, a.1, b.1], fun i v t h1 h2 => ?_⟩
  by_cases hi : i < xs.length
  · rw [List.getElem?_append_left hi] at h1
    rw [List.getElem?_append_left (by rw [← a.1]; exact hi)] at h2
    exact a.2 i v t h1 h2
  · rw [List.getElem?_append_right (Nat.le_of_not_lt hi)] at h1
    rw [List.getElem?_append_right (by rw [← a.1]; exact Nat.le_of_not_lt hi), ← a.1] at h2
    exact b.2 _ v t h1 h2
theorem Eth.cons {H : Hp} {v : V} {t : Th} {ys : List V} {us : List Th} (a : IsTh H v t) (b : Eth H ys us) : Eth H (v :: ys) (t :: us) := Eth.append (.one a) b
theorem Eth.take {H : Hp} {xs : List V} {ts : List Th} (a : Eth H xs ts) (k : Nat) : Eth H (xs.take k) (ts.take k) := by
  refine ⟨by rw [List.length_take, List.length_take, a.1], fun i v t h1 h2 => ?_⟩
  by_cases hi : i < k
  · rw [List.getElem?_take, if_pos hi] at h1 h2
    exact a.2 i v t h1 h2
  · rw [List.getElem?_take, if_neg hi] at h1; cases h1
theorem Eth.drop {H : Hp} {xs : List V} {ts : List Th} (a : Eth H xs ts) (k : Nat) : Eth H (xs.drop k) (ts.drop k) := by
  refine ⟨by rw [List.length_drop, List.length_drop, a.1], fun i v t h1 h2 => ?_⟩
  rw [List.getElem?_drop] at h1 h2
  exact a.2 _ v t h1 h2
theorem Eth.rev {H : Hp} {xs : List V} {ts : List Th} (a : Eth H xs ts) : Eth H xs.reverse ts.reverse := by
  refine ⟨by rw [List.length_reverse, List.length_reverse, a.1], fun i v t h1 h2 => ?_⟩
  have hi : i < xs.length := by have := (List.getElem?_eq_some_iff.mp h1).1; rwa [List.length_reverse] at this
  rw [List.getElem?_reverse hi] at h1
  rw [List.getElem?_reverse (by rw [← a.1]; exact hi), ← a.1] at h2
  exact a.2 _ v t h1 h2
theorem Eth.th {H : Hp} {a : Addr} {xs : List V} {ts : List Th} (h : Eth H xs ts) (e : H a = some (.tup xs)) (l : ts.length ≤ 100000) : IsTh H (.ref a) (.tup ts) := .tup a xs ts e h.1 (by rw [h.1]; exact l) h.2
theorem th_tup {H : Hp} {v : V} {ts : List Th} (h : IsTh H v (.tup ts)) : ∃ a xs, v = .ref a ∧ H a = some (.tup xs) ∧ Eth H xs ts ∧ ts.length ≤ 100000 := by
  cases h with
  | tup a xs _ h l z e => exact ⟨a, xs, rfl, h, ⟨l, e⟩, by omega⟩
theorem Eth.get {H : Hp} {xs : List V} {ts : List Th} (h : Eth H xs ts) {k : Nat} {t : Th} (e : ts[k]? = some t) : ∃ x, xs[k]? = some x ∧ IsTh H x t := by
  have hk := (List.getElem?_eq_some_iff.mp e).1
  have hk2 : k < xs.length := by rw [h.1]; exact hk
  exact ⟨xs[k], List.getElem?_eq_getElem hk2, h.2 k _ t (List.getElem?_eq_getElem hk2) e⟩
/-! ### cut and joined -/
theorem cat_go {K : PySem.W.Frag} {H : Hp} {a b : Addr} {xs ys : List V} {Q : VK} (ha : H a = some (.tup xs)) (hb : H b = some (.tup ys)) (hz : xs.length + ys.length ≤ sizeLine)
    (k : ∀ p H', Kp H H' → H' p = some (.tup (xs ++ ys)) → Q (.ref p) H') : rCatA K (.ref a) (.ref b) H Q := by
  refine ⟨a, b, xs, ys, rfl, rfl, SqT.of ha, SqT.of hb, hz, fun e => ?_, fun _ e => ?_, fun _ _ p np => k p _ (Kp.refl.new np) upd_same⟩
  · subst e
    exact k b H Kp.refl hb
  · subst e
    exact k a H Kp.refl (by rw [List.append_nil]; exact ha)
theorem cut_whole {xs : List V} {lo hi : Option Int} (h : HT.sIx xs.length 0 lo = 0 ∧ HT.sIx xs.length xs.length hi = xs.length) : cutV xs lo hi = xs := by
  unfold cutV
  rw [h.1, h.2, List.drop_zero, Nat.sub_zero, List.take_length]
theorem sl_go {K : PySem.W.Frag} {H : Hp} {a : Addr} {xs : List V} {lo hi : Option Int} {Q : VK} (ha : H a = some (.tup xs)) (k : ∀ p H', Kp H H' → H' p = some (.tup (cutV xs lo hi)) → Q (.ref p) H') : rSlA K (.ref a) lo hi H Q := by
  refine ⟨a, xs, rfl, SqT.of ha, fun h => ?_, fun _ p np => k p _ (Kp.refl.new np) upd_same⟩
  exact k a H Kp.refl (by rw [cut_whole h]; exact ha)
theorem cut_to (xs : List V) (k : Nat) : cutV xs none (some (k : Int)) = xs.take k := by
  unfold cutV
  rw [HT.sIx_none, HT.sIx_nat, List.drop_zero, Nat.sub_zero]
  by_cases h : k ≤ xs.length
  · rw [Nat.min_eq_left h]
  · rw [Nat.min_eq_right (by omega), List.take_length, List.take_of_length_le (by omega)]
theorem cut_from (xs : List V) (k : Nat) : cutV xs (some (k : Int)) none = xs.drop k := by
  unfold cutV
  rw [HT.sIx_none, HT.sIx_nat]
  by_cases h : k ≤ xs.length
  · rw [Nat.min_eq_left h, List.take_of_length_le (by rw [List.length_drop]; omega)]
  · rw [Nat.min_eq_right (by omega), List.drop_of_length_le (Nat.le_refl _), List.drop_of_length_le (by omega)]; simp
theorem cut_mid (xs : List V) (i : Nat) : cutV xs (some (i : Int)) (some ((i + 1 : Nat) : Int)) = (xs.drop i).take 1 := by
  unfold cutV
  rw [HT.sIx_nat, HT.sIx_nat]
  by_cases h : i < xs.length
  · rw [Nat.min_eq_left (by omega), Nat.min_eq_left (by omega), show i + 1 - i = 1 by omega]
  · rw [Nat.min_eq_right (by omega), Nat.min_eq_right (by omega), Nat.sub_self, List.drop_of_length_le (Nat.le_refl _), List.drop_of_length_le (by omega)]; rfl
end Pa

set_option Elab.async false
set_option linter.all false
set_option maxRecDepth 100000
set_option maxHeartbeats 2000000
/-! the law's own: part_at, put_at. -/
namespace Pp
open PySem PySem.Spec PyProof.Rows L2 Sx Rp Dw NdefX GxR Rw Th Kd Gx Nm Hs Pr Ps RZ Lw Lh Lp Lq Ez En An Ah La Lb Li Ln Lo Lr Sb Pa
abbrev sPart : Stmt := topS 43
abbrev sPut : Stmt := topS 44
theorem scPa : FnScope ["thing", "path", "k"] ["thing", "path"] (defScope sPart) := ⟨rfl, rfl, rfl, by decide +kernel, rfl, by decide +kernel, by decide +kernel⟩
theorem scPt : FnScope ["thing", "path", "part"] ["thing", "path", "part"] (defScope sPut) := ⟨rfl, rfl, rfl, by decide +kernel, rfl, by decide +kernel, by decide +kernel⟩
/-- a path as a value -/
def pathV (p : List Nat) : List V := p.map fun k => V.int ((k : Nat) : Int)
section
variable {P : Program} {w : World} {K : PySem.W.Frag} {mg : Str → Option Value} {base : Heap} {T : List Addr}
def spPart : Sp := fun vs H Q _ => ∃ v t pa path u, vs = [v, .ref pa] ∧ IsTh H v t ∧ H pa = some (.tup (pathV path)) ∧ pAt t path = some u ∧ ∀ x, IsTh H x u → Q x H
theorem ok_part {f : Addr} {fd : FuncData} (F : Fun K "_law_part_at" "_law_part_at" sPart f fd) : FnOk P w K mg base CX0 1 f fd ["thing", "path"] spPart := by
  refine F.ok scPa (fun vs H Q E h => ?_) (fun cdv A outer s H vs Q E hr h => ?_)
  · obtain ⟨v, t, pa, path, u, rfl, _⟩ := h
    rfl
  · obtain ⟨v, t, pa, path, u, rfl, h, hp, hu, k⟩ := h
    refine ⟨_, pss_cons (ps_for PassesOwn.never rfl (pi_tup (pv 1)) (pg_name (i := 2) scPa.nd rfl (Or.inl rfl))
        (pss_one (ps_set (i := 0) scPa.nd rfl (Or.inl rfl) (pe_ix ix_tup (pv 0) (pv 2) (fun _ _ => rfl)))))
      (pss_one (ps_ret (pv 0))), ?_⟩
    refine ⟨_, rfl, pa, rfl, ⟨_, SqT.of hp⟩, ?_⟩
    refine for_tup (K := K) (a := pa) (xs := pathV path) (fun i σ G => G = H ∧ ∃ o2 v u, σ = [some v, some (.ref pa), o2] ∧ IsTh H v u ∧ pAt t (path.take i) = some u)
      ⟨rfl, none, v, t, rfl, h, rfl⟩ (fun i σ G _ hI => ?_) (fun i x σ G hx hI => ?_) (fun σ G hI => ?_)
    · obtain ⟨rfl, _⟩ := hI
      exact SqT.of hp
    · obtain ⟨rfl, o2, v, u1, rfl, hv, hu1⟩ := hI
      unfold pathV at hx
      rw [List.getElem?_map] at hx
      obtain ⟨j, hj, rfl⟩ := Option.map_eq_some_iff.mp hx
      have e : path.take (i + 1) = path.take i ++ [j] := by rw [List.take_add_one, hj]; rfl
      have e2 : path = path.take (i + 1) ++ path.drop (i + 1) := (List.take_append_drop _ _).symm
      -- the next step is there
      have stp : ∃ u2, kid u1 j = some u2 := by
        have gen : ∀ (p r : List Nat) (t0 : Th), (pAt t0 (p ++ r)).isSome = true → (pAt t0 p).isSome = true := by
          intro p
          induction p with
          | nil => intro r t0 _; rfl
          | cons k p ih =>
            intro r t0 h9
            show ((kid t0 k).bind fun u => pAt u p).isSome = true
            cases hk : kid t0 k with
            | none =>
              have : pAt t0 (k :: p ++ r) = none := by show (kid t0 k).bind _ = none; rw [hk]; rfl
              rw [this] at h9; cases h9
            | some u9 =>
              have : pAt t0 (k :: p ++ r) = pAt u9 (p ++ r) := by show (kid t0 k).bind _ = _; rw [hk]; rfl
              rw [this] at h9
              exact ih r u9 h9
        have h9 := gen (path.take (i + 1)) (path.drop (i + 1)) t (by rw [← e2, hu]; rfl)
        rw [e, pAt_snoc, hu1] at h9
        exact Option.isSome_iff_exists.mp h9
      obtain ⟨u2, h2⟩ := stp
      obtain ⟨ts, rfl, h2'⟩ := kid_tup h2
      obtain ⟨a, xs, rfl, ha, ee, _⟩ := th_tup hv
      obtain ⟨y, hy, hy2⟩ := ee.get h2'
      refine ⟨_, rfl, _, rfl, a, xs, _, y, rfl, rfl, SqT.of ha, atI_nat hy, rfl, _, y, u2, rfl, hy2, ?_⟩
      rw [e, pAt_snoc, hu1]
      exact h2
    · obtain ⟨rfl, o2, v, u1, rfl, hv, hu1⟩ := hI
      rw [show (pathV path).length = path.length by unfold pathV; rw [List.length_map], List.take_length, hu] at hu1
      cases hu1
      exact ⟨_, rfl, k v hv⟩
/-- n is more than the path's length -/
def spPut (n : Nat) : Sp := fun vs H Q _ => ∃ v t pa path u0 pv' u, vs = [v, .ref pa, pv'] ∧ path.length < n ∧ IsTh H v t ∧ H pa = some (.tup (pathV path)) ∧ pAt t path = some u0 ∧ IsTh H pv' u ∧
  ∀ v' H', Kp H H' → IsTh H' v' (pPut t path u) → Q v' H'
theorem ok_put {f : Addr} {fd : FuncData} (F : Fun K "_law_put_at" "_law_put_at" sPut f fd) (mG : mg "_law_put_at" = some (.ref f)) (kG : PySem.W.keepIn K (.ref f) = true) (bG : Binds K fd ["thing", "path", "part"] []) :
    ∀ n : Nat, FnOk P w K mg base CX0 (n + 1) f fd ["thing", "path", "part"] (spPut n)
  | 0 => F.ok scPt (fun vs H Q E h => by obtain ⟨_, _, _, _, _, _, _, _, h, _⟩ := h; exact absurd h (Nat.not_lt_zero _)) (fun cdv A outer s H vs Q E hr h => by obtain ⟨_, _, _, _, _, _, _, _, h, _⟩ := h; exact absurd h (Nat.not_lt_zero _))
  | n + 1 => by
    have G := ok_put F mG kG bG n
    refine F.ok scPt (fun vs H Q E h => ?_) (fun cdv A outer s H vs Q E hr h => ?_)
    · obtain ⟨v, t, pa, path, u0, pv', u, rfl, _⟩ := h
      rfl
    · obtain ⟨v, t, pa, path, u0, pv', u, rfl, hn, h, hpa, h0, hu, k⟩ := h
      refine ⟨_, pss_cons (ps_if (pt_cmpR (op_eqE hr.units0) (pv 1) (pe_tup pa_nil) (nomark _)) (pss_one (ps_ret (pv 2))) pss_nil)
        (pss_one (ps_ret (pe_op op_catA (pe_op op_catA (pe_slice sl_tupA (pv 0) po_none (po_some (pe_ix ix_tup (pv 1) pe_int (fun _ _ => rfl))))
            (pe_tup (pa_cons (pe_call G hr (by rfl) mG kG bG .nil pass0 (pa_cons (pe_ix ix_tup (pv 0) (pe_ix ix_tup (pv 1) pe_int (fun _ _ => rfl)) (fun _ _ => rfl)) (pa_cons (pe_slice sl_tupA (pv 1) (po_some pe_int) po_none) (pa_cons (pv 2) pa_nil)))) pa_nil)))
          (pe_slice sl_tupA (pv 0) (po_some (pe_op op_add (pe_ix ix_tup (pv 1) pe_int (fun _ _ => rfl)) pe_int)) po_none)))), ?_⟩
      refine ⟨_, rfl, Nat.zero_le _, fun p np => ?_⟩
      have k0 : Kp H (upd H p (.tup [])) := Kp.refl.new np
      have h0p : (upd H p (.tup [])) p = some (.tup []) := upd_same
      generalize upd H p (.tup []) = H0 at k0 h0p
      refine ⟨pa, p, _, rfl, rfl, SqT.of (k0 _ _ hpa), SqT.of h0p, _, rfl, ?_⟩
      cases path with
      | nil =>
        refine iteT' rfl ⟨_, rfl, k pv' H0 k0 (k0.th hu)⟩
      | cons j r =>
        refine iteF' rfl ?_
        obtain ⟨u1, h1, h2⟩ := Option.bind_eq_some_iff.mp h0
        obtain ⟨ts, rfl, h1'⟩ := kid_tup h1
        obtain ⟨a, xs, rfl, ha, ee, hl⟩ := th_tup h
        obtain ⟨y, hy, hy2⟩ := ee.get h1'
        have hjl := (List.getElem?_eq_some_iff.mp hy).1
        have atj : atI (pathV (j :: r)) 0 = some (.int ((j : Nat) : Int)) := at0
        refine ⟨_, rfl, _, rfl, pa, _, _, _, rfl, rfl, SqT.of (k0 _ _ hpa), atj, _, rfl, ?_⟩
        refine sl_go (k0 _ _ ha) (fun p1 H1 k1 hp1 => ?_)
        have k01 := k0.trans k1
        refine ⟨_, rfl, _, rfl, pa, _, _, _, rfl, rfl, SqT.of (k01 _ _ hpa), atj, a, xs, _, y, rfl, rfl, SqT.of (k01 _ _ ha), atI_nat hy, _, rfl, _, rfl, ?_⟩
        unfold tNoPart
        refine sl_go (k01 _ _ hpa) (fun p2 H2 k2 hp2 => ?_)
        have k02 := k01.trans k2
        have ec : cutV (pathV (j :: r)) (some 1) none = pathV r := by
          have := cut_from (pathV (j :: r)) 1
          rw [show ((1 : Nat) : Int) = 1 from rfl] at this
          rw [this]; rfl
        rw [ec] at hp2
        refine ⟨_, rfl, y, u1, p2, r, u0, pv', u, rfl, by simp at hn; omega, k02.th hy2, hp2, h2, k02.th hu, fun v3 H3 k3 hv3 => ?_⟩
        have k03 := k02.trans k3
        refine ⟨show 1 ≤ sizeLine by decide, fun p4 n4 => ?_⟩
        have k04 := k03.new (o := .tup [v3]) n4
        have k34 : Kp H3 (upd H3 p4 (.tup [v3])) := Kp.refl.new n4
        have h4 : (upd H3 p4 (.tup [v3])) p4 = some (.tup [v3]) := upd_same
        generalize upd H3 p4 (.tup [v3]) = H4 at k04 k34 h4
        have hl2 : xs.length ≤ 100000 := by rw [ee.1]; exact hl
        refine cat_go (k34 _ _ (k3 _ _ (k2 _ _ hp1))) h4 (by have := cutV_length xs none (some (j : Int)); rw [sizeLine_eq]; simp only [List.length_singleton]; omega) (fun p5 H5 k5 hp5 => ?_)
        have k05 := k04.trans k5
        refine ⟨_, rfl, _, rfl, pa, _, _, _, rfl, rfl, SqT.of (k05 _ _ hpa), atj, _, _, rfl, rfl, _, rfl, ?_⟩
        dsimp only
        refine sl_go (k05 _ _ ha) (fun p6 H6 k6 hp6 => ?_)
        rw [cut_to] at hp5
        have ec2 : cutV xs (some ((j : Int) + 1)) none = xs.drop (j + 1) := cut_from xs (j + 1)
        rw [ec2] at hp6
        refine cat_go (k6 _ _ hp5) hp6 (by rw [List.length_append, List.length_take, List.length_drop, sizeLine_eq]; simp only [List.length_singleton]; omega) (fun p7 H7 k7 hp7 => ?_)
        refine k _ H7 ((k05.trans k6).trans k7) ?_
        have e9 : ts.getD j .non = u1 := by rw [List.getD_eq_getElem?_getD, h1']; rfl
        show IsTh H7 _ (.tup (ts.take j ++ (pPut (ts.getD j .non) r u :: ts.drop (j + 1))))
        rw [e9]
        have k9 := (k05.trans k6).trans k7
        have hv7 := k7.th (k6.th (k5.th (k34.th hv3)))
        rw [List.append_assoc] at hp7
        exact Eth.th (((ee.keep k9).take j).append (.cons hv7 ((ee.keep k9).drop (j + 1)))) hp7 (by rw [List.length_append, List.length_cons, List.length_take, List.length_drop]; omega)
end
end Pp

set_option Elab.async false
set_option linter.all false
set_option maxRecDepth 100000
set_option maxHeartbeats 2000000
/-! the law's own: places. -/
namespace Lz
open PySem PySem.Spec PyProof.Rows L2 Sx Rp Dw NdefX GxR Rw Th Kd Gx Nm Hs Pr Ps RZ Lw Lh Lp Lq Ez En An Ah La Lb Li Ln Lo Lr Sb Pa Pp
abbrev sPlaces : Stmt := topS 42
theorem scPl : FnScope ["thing", "line", "at", "path", "part", "k", "inner"] ["thing"] (defScope sPlaces) := ⟨rfl, rfl, rfl, by decide +kernel, rfl, by decide +kernel, by decide +kernel⟩
/-- a list made over enumerate of a tuple that stays -/
theorem lc_enumL {K : PySem.W.Frag} {a : Addr} {xs : List V} {g : TG} {tt : TT} {te : TE} {vs : List Nat} {σ : L2.St} {H1 : Hp} {D : Addr} {Qd : Hp → Prop} (Pv : Nat → Hp → Prop) (h0 : Pv 0 (upd H1 D (.lst []))) (hl : ∀ i H, i ≤ xs.length → Pv i H → SqT K H a xs)
    (hs : ∀ i x T H, xs[i]? = some x → Pv i H → H T = none → g (.ref T) (wipe σ vs) (upd H T (.tup [.int (i : Nat), x])) fun σ2 H2 => wipe σ2 vs = wipe σ vs ∧ tt σ2 H2 fun b H3 =>
      if b = true then te σ2 H3 fun y H4 => ∃ acc, H4 D = some (.lst acc) ∧ acc.length < sizeLine ∧ Pv (i + 1) (upd H4 D (.lst (acc ++ [y]))) else Pv (i + 1) H3) (hd : ∀ H, Pv xs.length H → Qd H) :
    ∃ W : Nat → Nat → Hp → Prop, (∃ m, W 0 m (upd H1 D (.lst []))) ∧ ∀ i m H, W i m H →
      ((IteT K a).stop i H ∧ Qd H) ∨ ((IteT K a).go i H ∧ ∃ Nx : Hp → Prop, (∀ H', Nx H' → ∃ m', m' < m ∧ W (i + 1) m' H') ∧ ∀ x H', (IteT K a).yld i H x H' → g x (wipe σ vs) H' fun σ2 H2 => wipe σ2 vs = wipe σ vs ∧ tt σ2 H2 fun b H3 =>
        if b = true then te σ2 H3 fun y H4 => ∃ acc, H4 D = some (.lst acc) ∧ acc.length < sizeLine ∧ Nx (upd H4 D (.lst (acc ++ [y]))) else Nx H3) := by
  refine ⟨fun i m H => m = xs.length - i ∧ i ≤ xs.length ∧ Pv i H, ⟨xs.length, by simp, Nat.zero_le _, h0⟩, ?_⟩
  rintro i m H ⟨rfl, hi, p⟩
  have q := hl i H hi p
  by_cases hlt : i < xs.length
  · refine .inr ⟨⟨xs, xs[i], q, by simp [hlt]⟩, Pv (i + 1), fun H' p' => ⟨xs.length - (i + 1), by omega, rfl, hlt, p'⟩, fun x H' y => ?_⟩
    obtain ⟨T, x', rfl, nT, rfl, ye⟩ := y
    exact hs i x' T H (ye xs q) p nT
  · have e : i = xs.length := by omega
    subst e
    exact .inl ⟨⟨xs, q, Nat.le_refl _⟩, hd H p⟩
/-- a place and what stands there, as a pair -/
def Pair (t : Th) (G : Hp) (v : V) (u : Th) (path : List Nat) : Prop := ∃ a pa pv', v = .ref a ∧ G a = some (.tup [.ref pa, pv']) ∧ G pa = some (.tup (pathV path)) ∧ IsTh G pv' u ∧ pAt t path = some u
theorem Pair.soft {t : Th} {G G' : Hp} {v : V} {u : Th} {path : List Nat} (k : Soft G G') (h : Pair t G v u path) : Pair t G' v u path := by
  obtain ⟨a, pa, pv', e, h1, h2, h3, h4⟩ := h
  exact ⟨a, pa, pv', e, k.tup _ _ h1, k.tup _ _ h2, k.th h3, h4⟩
def Pairs (t : Th) (G : Hp) (vs : List V) (us : List Th) : Prop := vs.length = us.length ∧ ∀ (i : Nat) (v : V) (u : Th), vs[i]? = some v → us[i]? = some u → ∃ path, Pair t G v u path
theorem Pairs.soft {t : Th} {G G' : Hp} {vs : List V} {us : List Th} (k : Soft G G') (h : Pairs t G vs us) : Pairs t G' vs us := ⟨h.1, fun i v u a b => let ⟨p, q⟩ := h.2 i v u a b; ⟨p, q.soft k⟩⟩
theorem Pairs.append {t : Th} {G : Hp} {vs ws : List V} {us zs : List Th} (a : Pairs t G vs us) (b : Pairs t G ws zs) : Pairs t G (vs ++ ws) (us ++ zs) := by
  refine ⟨by rw [List.length_append, List.length_append, a.1, b.1], fun i v t h1 h2 => ?_⟩
  by_cases hi : i < vs.length
  · rw [List.getElem?_append_left hi] at h1
    rw [List.getElem?_append_left (by rw [← a.1]; exact hi)] at h2
    exact a.2 i v t h1 h2
  · rw [List.getElem?_append_right (Nat.le_of_not_lt hi)] at h1
    rw [List.getElem?_append_right (by rw [← a.1]; exact Nat.le_of_not_lt hi), ← a.1] at h2
    exact b.2 _ v t h1 h2
theorem Pairs.one {t : Th} {G : Hp} {v : V} {u : Th} {path : List Nat} (h : Pair t G v u path) : Pairs t G [v] [u] := ⟨rfl, fun i v' t' a b => by
  match i, a, b with
  | 0, a, b => cases a; cases b; exact ⟨path, h⟩⟩
theorem Pairs.nil {t : Th} {G : Hp} : Pairs t G [] [] := ⟨rfl, fun i v' t' a b => by simp at a⟩
def PathsAt (t : Th) (G : Hp) (vps : List V) : Prop := ∀ y ∈ vps, ∃ pa path u, y = V.ref pa ∧ G pa = some (.tup (pathV path)) ∧ pAt t path = some u
section
variable {P : Program} {w : World} {K : PySem.W.Frag} {mg : Str → Option Value} {base : Heap} {T : List Addr}
def spPlaces : Sp := fun vs H Q _ => ∃ v t, vs = [v] ∧ IsTh H v t ∧ sz t ≤ 10000 ∧ ∀ p vps H', Kp H H' → H p = none → H' p = some (.lst vps) → 1 ≤ vps.length → vps.length ≤ sz t → PathsAt t H' vps → Q (.ref p) H'
theorem ok_places {f : Addr} {fd : FuncData} (F : Fun K "_law_places" "_law_places" sPlaces f fd) (mi : mg "isinstance" = none) (mt : mg "tuple" = none) (ml : mg "len" = none) (me : mg "enumerate" = none) : FnOk P w K mg base CX0 1 f fd ["thing"] spPlaces := by
  refine F.ok scPl (fun vs H Q E h => ?_) (fun cdv A outer s H vs Q E hr h => ?_)
  · obtain ⟨v, t, rfl, _⟩ := h
    rfl
  · obtain ⟨v, t, rfl, h, hz, k⟩ := h
    refine ⟨_, pss_cons (ps_par (by rfl) scPl.nd (i := 1) (j := 2) rfl rfl (by decide) rfl rfl (pa_cons (pe_lst (pa_cons (pe_tup (pa_cons (pe_tup pa_nil) (pa_cons (pv 0) pa_nil))) pa_nil)) (pa_cons pe_int pa_nil)) (by rfl))
      (pss_cons (ps_while PassesOwn.never (pt_cmpR op_lt (pv 2) (pe_callB call_len_seq (by rfl) ml PySem.boot_len (pa_cons (pv 1) pa_nil)) (nomark _))
        (pss_cons (ps_asg (pe_ix ix_list (pv 1) (pv 2) (fun _ _ => rfl)) (pg_tup rfl (pgs_cons (pg_name (i := 3) scPl.nd rfl (Or.inr rfl)) (pgs_cons (pg_name (i := 4) scPl.nd rfl (Or.inl rfl)) pgs_nil))))
        (pss_cons (ps_set (i := 2) scPl.nd rfl (Or.inl rfl) (pe_op op_add (pv 2) pe_int))
        (pss_one (ps_if (pt_val (pe_callB call_isi (by rfl) mi (by decide +kernel) (pa_cons (pv 4) (pa_cons (pe_bltn (v := .ty "tuple") (by rfl) mt (by decide +kernel) rfl) pa_nil))))
          (pss_one (ps_expr (pe_bm PySem.F.plainAttrs_list PySem.F.slot_list_extend PySem.F.type_list_extend mt_extend (pv 1) (pa_cons
            (pe_lc (own := [("k", 5), ("inner", 6)]) (g := gTup K 2 (gCons (gName 5) (gCons (gName 6) gNil))) (tt := tYes) (te := tTup (tCons (tOp (rCatA K) (tVar 3) (tTup (tCons (tVar 5) tNil))) (tCons (tVar 6) tNil))) (by rfl) scPl.nd (pi_enumT (by rfl) me (pa_cons (pv 4) pa_nil))
              (blkOk_by (own := [("k", 5), ("inner", 6)]) (N := ["thing", "line", "at", "path", "part", "k", "inner"]) (sc := defScope sPlaces) (by decide +kernel))
              (fun _ _ _ _ _ => pg_tup rfl (pgs_cons (pg_name (i := 5) scPl.nd rfl (Or.inl rfl)) (pgs_cons (pg_name (i := 6) scPl.nd rfl (Or.inl rfl)) pgs_nil))) (fun _ _ _ _ _ => pts_nil)
              (fun _ _ _ _ _ => pe_tup (pa_cons (pe_op op_catA (pv 3) (pe_tup (pa_cons (pv 5) pa_nil))) (pa_cons (pv 6) pa_nil)))) pa_nil)))) pss_nil)))))
      (pss_one (ps_ret (pe_lc (own := [("path", 3), ("part", 4)]) (g := gTup K 2 (gCons (gName 3) (gCons (gName 4) gNil))) (tt := tYes) (te := tVar 3) (by rfl) scPl.nd (pi_list (pv 1))
        (blkOk_by (own := [("path", 3), ("part", 4)]) (N := ["thing", "line", "at", "path", "part", "k", "inner"]) (sc := defScope sPlaces) (by decide +kernel))
        (fun _ _ _ _ _ => pg_tup rfl (pgs_cons (pg_name (i := 3) scPl.nd rfl (Or.inl rfl)) (pgs_cons (pg_name (i := 4) scPl.nd rfl (Or.inl rfl)) pgs_nil))) (fun _ _ _ _ _ => pts_nil) (fun _ _ _ _ _ => pv 3))))), ?_⟩
    refine ⟨Nat.zero_le _, fun pe npe => ?_⟩
    have k1 : Kp H (upd H pe (.tup [])) := Kp.refl.new npe
    have h1 : (upd H pe (.tup [])) pe = some (.tup []) := upd_same
    generalize upd H pe (.tup []) = H1 at k1 h1
    refine ⟨_, rfl, (show 2 ≤ sizeLine by decide), fun pt' npt => ?_⟩
    have k2 : Kp H1 (upd H1 pt' (.tup [.ref pe, v])) := Kp.refl.new npt
    have h2 : (upd H1 pt' (.tup [.ref pe, v])) pt' = some (.tup [.ref pe, v]) := upd_same
    generalize upd H1 pt' (.tup [.ref pe, v]) = H2 at k2 h2
    refine ⟨show 1 ≤ sizeLine by decide, fun L nL => ?_⟩
    have k3 : Kp H2 (upd H2 L (.lst [.ref pt'])) := Kp.refl.new nL
    have h3 : (upd H2 L (.lst [.ref pt'])) L = some (.lst [.ref pt']) := upd_same
    generalize upd H2 L (.lst [.ref pt']) = H3 at k3 h3
    have nLH : H L = none := k1.non (k2.non nL)
    have k03 := (k1.trans k2).trans k3
    refine ⟨_, _, rfl, ?_⟩
    refine ⟨fun m σ G => ∃ (n : Nat) (o3 o4 : Option V) (vs : List V) (us : List Th), σ = [some v, some (.ref L), some (.int (n : Int)), o3, o4, none, none] ∧ Kp H G ∧ G L = some (.lst vs) ∧ Pairs t G vs us ∧ 1 ≤ vs.length ∧ n ≤ us.length ∧ n + szs (us.drop n) ≤ sz t ∧ m = szs (us.drop n),
      ⟨_, 0, none, none, [.ref pt'], [t], rfl, k03, h3, Pairs.one (path := []) ⟨pt', pe, v, rfl, k3 _ _ h2, k3 _ _ (k2 _ _ h1), k03.th h, rfl⟩, Nat.le_refl _, Nat.zero_le _, by rw [List.drop_zero, szs_cons, szs_nil]; omega, rfl⟩, fun m σ G hI => ?_⟩
    obtain ⟨n, o3, o4, vs, us, rfl, kG, hL, hP, h1v, hn, hsz, rfl⟩ := hI
    have hlen : vs.length ≤ sz t := by
      have := szs_len (us.drop n)
      rw [List.length_drop] at this
      rw [hP.1]; omega
    refine ⟨_, rfl, _, rfl, L, vs, rfl, .inl (SqL.of hL), _, _, rfl, rfl, _, rfl, ?_⟩
    by_cases hlt : n < vs.length
    · refine iteT' (decide_eq_true (by omega)) ?_
      have hlu : n < us.length := by rw [← hP.1]; exact hlt
      have hv := List.getElem?_eq_getElem hlt
      have hu := List.getElem?_eq_getElem hlu
      generalize vs[n] = v1 at hv
      generalize us[n] = u1 at hu
      obtain ⟨path, a1, pa1, pv1, rfl, ha1, hpa1, hth1, hat1⟩ := hP.2 n v1 u1 hv hu
      have hd : szs (us.drop n) = sz u1 + szs (us.drop (n + 1)) := by
        rw [List.drop_eq_getElem_cons hlu, szs_cons]
        rw [List.getElem?_eq_getElem hlu] at hu
        cases hu
        rfl
      have hz1 := sz_pos u1
      refine ⟨fun σ G => ∃ m', m' < szs (us.drop n) ∧ ∃ (n : Nat) (o3 o4 : Option V) (vs : List V) (us : List Th), σ = [some v, some (.ref L), some (.int (n : Int)), o3, o4, none, none] ∧ Kp H G ∧ G L = some (.lst vs) ∧ Pairs t G vs us ∧ 1 ≤ vs.length ∧ n ≤ us.length ∧ n + szs (us.drop n) ≤ sz t ∧ m' = szs (us.drop n), fun σ' H' h => h, ?_⟩
      refine ⟨_, rfl, _, rfl, L, vs, _, _, rfl, rfl, SqL.of hL, atI_nat hv, a1, _, rfl, SqT.of ha1, rfl, _, _, rfl, _, _, rfl, rfl, ?_⟩
      refine ⟨_, rfl, _, _, rfl, rfl, ?_⟩
      obtain ⟨ty, y, e1, e2, _⟩ := ty_of (K := K) hth1
      refine ⟨_, rfl, pv1, .ty "tuple", ty, .type "tuple", _, rfl, .ty "tuple", y, e2, _, rfl, ?_⟩
      have skip : u1.isTup = false → szs (us.drop (n + 1)) < szs (us.drop n) ∧ ∃ (n' : Nat) (o3 o4 : Option V) (vs : List V) (us' : List Th), ([some v, some (.ref L), some (.int ((n : Int) + 1)), some (.ref pa1), some pv1, none, none] : L2.St) = [some v, some (.ref L), some (.int (n' : Int)), o3, o4, none, none] ∧ Kp H G ∧ G L = some (.lst vs) ∧ Pairs t G vs us' ∧ 1 ≤ vs.length ∧ n' ≤ us'.length ∧ n' + szs (us'.drop n') ≤ sz t ∧ szs (us.drop (n + 1)) = szs (us'.drop n') := fun _ =>
        ⟨by omega, n + 1, _, _, vs, us, rfl, kG, hL, hP, h1v, hlu, by omega, rfl⟩
      cases hth1 with
      | tup a4 xs4 ts h4 l4 z4 e4 =>
        refine iteT' rfl ⟨_, rfl, Or.inl ⟨rfl, _, SqL.of hL⟩, _, rfl, a4, xs4, rfl, SqT.of h4, fun D nD => ?_⟩
        have nDL : D ≠ L := fun y => by rw [y, hL] at nD; cases nD
        have hts := sz_tup ts
        have hts2 := szs_len ts
        have hatsz := pAt_sz path hat1
        refine lc_enumL (K := K) (a := a4) (xs := xs4) (fun i G2 => ∃ ws, G2 D = some (.lst ws) ∧ Kp G G2 ∧ Pairs t G2 ws (ts.take i)) ⟨[], upd_same, Kp.refl.new nD, by rw [List.take_zero]; exact Pairs.nil⟩ (fun i G2 _ hI => ?_) (fun i x T2 G2 hx hI nT2 => ?_) (fun G2 hI => ?_)
        · obtain ⟨ws, _, kG2, _⟩ := hI
          exact SqT.of (kG2 _ _ h4)
        · obtain ⟨ws, hD, kG2, hW⟩ := hI
          have hi : i < ts.length := by rw [← l4]; exact (List.getElem?_eq_some_iff.mp hx).1
          obtain ⟨c', hc⟩ : ∃ c', ts[i]? = some c' := ⟨ts[i], List.getElem?_eq_getElem hi⟩
          have kT : Kp G2 (upd G2 T2 (.tup [.int (i : Nat), x])) := Kp.refl.new nT2
          have hT2 : (upd G2 T2 (.tup [.int (i : Nat), x])) T2 = some (.tup [.int (i : Nat), x]) := upd_same
          generalize upd G2 T2 (.tup [.int (i : Nat), x]) = G3 at kT hT2
          refine ⟨T2, _, rfl, SqT.of hT2, rfl, _, _, rfl, _, _, rfl, rfl, rfl, ?_⟩
          refine ⟨_, rfl, _, rfl, (show 1 ≤ sizeLine by decide), fun q nq => ?_⟩
          have kq : Kp G3 (upd G3 q (.tup [.int (i : Nat)])) := Kp.refl.new nq
          have hq : (upd G3 q (.tup [.int (i : Nat)])) q = some (.tup [.int (i : Nat)]) := upd_same
          generalize upd G3 q (.tup [.int (i : Nat)]) = G4 at kq hq
          have k24 := kT.trans kq
          have kG4 := kG2.trans k24
          refine cat_go (kG4 _ _ hpa1) hq (by unfold pathV; rw [List.length_map, sizeLine_eq]; simp only [List.length_singleton]; omega) (fun p5 G5 k5 hp5 => ?_)
          refine ⟨_, rfl, (show 2 ≤ sizeLine by decide), fun q6 nq6 => ?_⟩
          have k6 : Kp G5 (upd G5 q6 (.tup [.ref p5, x])) := Kp.refl.new nq6
          have h6 : (upd G5 q6 (.tup [.ref p5, x])) q6 = some (.tup [.ref p5, x]) := upd_same
          generalize upd G5 q6 (.tup [.ref p5, x]) = G6 at k6 h6
          have k26 := (k24.trans k5).trans k6
          have hD6 := k26 _ _ hD
          refine ⟨ws, hD6, by rw [hW.1, List.length_take, sizeLine_eq]; omega, ws ++ [.ref q6], upd_same, (kG2.trans k26).put nD, ?_⟩
          have etk : ts.take (i + 1) = ts.take i ++ [c'] := by rw [List.take_add_one, hc]; rfl
          rw [etk]
          have sD : Soft G6 (upd G6 D (.lst (ws ++ [.ref q6]))) := Soft.list hD6
          refine ((hW.soft (Soft.keep k26)).soft sD).append (Pairs.one (path := path ++ [i]) (Pair.soft sD ⟨q6, p5, x, rfl, h6, ?_, (kG2.trans k26).th (e4 i x c' hx hc), ?_⟩))
          · have e : pathV path ++ [.int ((i : Nat) : Int)] = pathV (path ++ [i]) := by unfold pathV; rw [List.map_append]; rfl
            rw [e] at hp5
            exact k6 _ _ hp5
          · rw [pAt_snoc, hat1]
            exact hc
        · obtain ⟨ws, hD, kG2, hW⟩ := hI
          rw [l4, List.take_length] at hW
          have hL2 := kG2 _ _ hL
          refine ⟨L, D, vs, ws, rfl, rfl, hL2, hD, by rw [hW.1, sizeLine_eq]; omega, ?_⟩
          have sL : Soft G2 (upd G2 L (.lst (vs ++ ws))) := Soft.list hL2
          refine ⟨_, ?_, n + 1, _, _, vs ++ ws, us ++ ts, rfl, (kG.trans kG2).put nLH, upd_same, ((hP.soft (Soft.keep kG2)).append hW).soft sL, by rw [List.length_append]; omega, by rw [List.length_append]; omega, ?_, rfl⟩
          · rw [List.drop_append_of_le_length (by omega), szs_append]; omega
          · rw [List.drop_append_of_le_length (by omega), szs_append]; omega
      | _ => exact iteF' rfl ⟨_, skip rfl⟩
    · refine iteF' (decide_eq_false (by omega)) ⟨_, rfl, L, rfl, ⟨vs, SqL.of hL⟩, fun D nD => ?_⟩
      refine lc_list (K := K) (a := L) (xs := vs) (fun i G2 => ∃ ws, G2 D = some (.lst ws) ∧ Kp G G2 ∧ ws.length = i ∧ PathsAt t G2 ws) ⟨[], upd_same, Kp.refl.new nD, rfl, fun y hy => by simp at hy⟩ (fun i G2 _ hI => ?_) (fun i x G2 hx hI => ?_) (fun G2 hI => ?_)
      · obtain ⟨ws, _, kG2, _⟩ := hI
        exact SqL.of (kG2 _ _ hL)
      · obtain ⟨ws, hD, kG2, hw, hW⟩ := hI
        have hi : i < us.length := by rw [← hP.1]; exact (List.getElem?_eq_some_iff.mp hx).1
        obtain ⟨path, a1, pa1, pv1, rfl, ha1, hpa1, hth1, hat1⟩ := hP.2 i x _ hx (List.getElem?_eq_getElem hi)
        have hi2 := (List.getElem?_eq_some_iff.mp hx).1
        refine ⟨a1, _, rfl, SqT.of (kG2 _ _ ha1), rfl, _, _, rfl, _, _, rfl, rfl, rfl, _, rfl, ws, hD, by rw [hw, sizeLine_eq]; omega, ws ++ [.ref pa1], upd_same, kG2.put nD, by rw [List.length_append, hw]; rfl, fun y hy => ?_⟩
        have sD : Soft G2 (upd G2 D (.lst (ws ++ [.ref pa1]))) := Soft.list hD
        rcases List.mem_append.mp hy with h' | h'
        · obtain ⟨pa, path, u, e, h2, h3⟩ := hW y h'
          exact ⟨pa, path, u, e, sD.tup _ _ h2, h3⟩
        · exact ⟨pa1, path, _, List.mem_singleton.mp h', sD.tup _ _ (kG2 _ _ hpa1), hat1⟩
      · obtain ⟨ws, hD, kG2, hw, hW⟩ := hI
        exact k D ws G2 (kG.trans kG2) (kG.non nD) hD (by omega) (by omega) hW
end
end Lz

set_option Elab.async false
set_option linter.all false
set_option maxRecDepth 100000
set_option maxHeartbeats 2000000
/-! odd values: what they are; a drawn one of a list of good ones. -/
namespace Oa
open PySem PySem.Spec PyProof.Rows L2 Sx Rp Dw NdefX GxR Rw Th Kd Gx Nm Hs Pr Ps RZ Lw Lh Lp Lq Ez En An Ah La Lb Li Ln Lo Lr Sb Pa Pp Lz
theorem szs_split (ts : List Th) (k : Nat) : szs (ts.take k) + szs (ts.drop k) = szs ts := by
  rw [← szs_append, List.take_append_drop]
theorem szs_drop1 (ts : List Th) (k : Nat) : szs (ts.drop (k + 1)) ≤ szs (ts.drop k) := by
  have := szs_split (ts.drop k) 1
  rw [List.drop_drop] at this
  omega
theorem szs_take1 (ts : List Th) (k : Nat) : szs ((ts.drop k).take 1) ≤ szs (ts.drop k) := by
  have := szs_split (ts.drop k) 1
  omega
theorem szs_rev : ∀ ts : List Th, szs ts.reverse = szs ts
  | [] => rfl
  | t :: r => by rw [List.reverse_cons, szs_append, szs_cons, szs_cons, szs_nil, szs_rev r]; omega
/-- a value that is some thing of a bounded size -/
def Good (B l : Nat) (H : Hp) (v : V) : Prop := ∃ u, IsTh H v u ∧ sz u ≤ B ∧ lf l u = true
theorem Good.soft {B l : Nat} {H G : Hp} {v : V} (k : Soft H G) (h : Good B l H v) : Good B l G v := let ⟨u, a, b, c⟩ := h; ⟨u, k.th a, b, c⟩
theorem Good.keep {B l : Nat} {H G : Hp} {v : V} (k : Kp H G) (h : Good B l H v) : Good B l G v := h.soft (Soft.keep k)
theorem good_tup {B l : Nat} {H : Hp} {a : Addr} {xs : List V} {ts : List Th} (h : H a = some (.tup xs)) (e : Eth H xs ts) (b : szs ts + 1 ≤ B) (c : ∀ t ∈ ts, lf l t = true) (hB : B ≤ 100000) : Good B l H (.ref a) :=
  ⟨.tup ts, e.th h (by have := szs_len ts; omega), by rw [sz_tup]; exact b, by rw [lf_tup, lfs_all]; exact List.all_eq_true.mpr c⟩
theorem good_lst {B l : Nat} {H : Hp} {a : Addr} {xs : List V} (h : H a = some (.lst xs)) (hB : 1 ≤ B) : Good B l H (.ref a) := ⟨.oth, .lst a xs h, by simp [sz]; omega, by simp [lf]⟩
theorem good_dic {B l : Nat} {H : Hp} {a : Addr} {xs : List (Key × V)} (h : H a = some (.dK xs)) (hB : 1 ≤ B) : Good B l H (.ref a) := ⟨.oth, .dic a xs h, by simp [sz]; omega, by simp [lf]⟩
theorem good_non {B l : Nat} {H : Hp} (hB : 1 ≤ B) : Good B l H .non := ⟨.non, .non, by simp [sz]; omega, by simp [lf]⟩
theorem good_bl {B l : Nat} {H : Hp} (b : Bool) (hB : 1 ≤ B) : Good B l H (.bl b) := ⟨.bl b, .bl b, by simp [sz]; omega, by simp [lf]⟩
theorem good_int {B l : Nat} {H : Hp} (i : Int) (hi : i.natAbs ≤ l) (hB : 1 ≤ B) : Good B l H (.int i) := ⟨.int i, .int i, by simp [sz]; omega, by simp [lf]; exact hi⟩
theorem lf_sT {l : Nat} {s : Str} (h : s.cps.toList.length ≤ l) : lf l (sT s) = true := by
  show lf l (.str s.cps.toList) = true
  simp only [lf]
  exact decide_eq_true h
theorem sz_sT (s : Str) : sz (sT s) = 1 := by show sz (.str _) = 1; simp [sz]
theorem good_str {B l : Nat} {H : Hp} (s : Str) (hs : s.cps.toList.length ≤ l) (hc : ∀ c ∈ s.cps.toList, c < 127) (hl : l ≤ 100000) (hB : 1 ≤ B) : Good B l H (.str s) :=
  ⟨sT s, isTh_word ⟨by omega, hc⟩, by rw [sz_sT]; exact hB, lf_sT hs⟩
theorem good_lit {B l : Nat} {H : Hp} (s : Str) (hs : s.cps.toList.length ≤ 9 ∧ ∀ c ∈ s.cps.toList, c < 127) (h9 : 9 ≤ l) (hl : l ≤ 100000) (hB : 1 ≤ B) : Good B l H (.str s) := good_str s (by omega) hs.2 hl hB
/-- str(i) of a small i -/
theorem int_txt (i : Int) (h : i.natAbs ≤ 9999) : (Str.ofString (toString i)).cps.toList.length ≤ 5 ∧ ∀ c ∈ (Str.ofString (toString i)).cps.toList, c < 127 := by
  constructor
  · have := PySem.int_text_length_le10 (a := i) (k := 4) (by decide) (by omega)
    have e : (Str.ofString (toString i)).cps.toList.length = (toString i).length := by rw [← PySem.ofString_length]; simp [Str.length]
    omega
  · intro c hc
    by_cases h2 : c < 127
    · exact h2
    · exact absurd hc (int_text_free' c ⟨by omega, .inr (by omega)⟩ i)
theorem But.ofK {d wp : Addr} {H G : Hp} (k : Kp H G) : But d wp H G := fun b o e _ _ => k b o e
theorem pick_good {d wp cp q : Addr} {n B l : Nat} {ys : List V} {G : Hp} {Q : VK} {E : XK} (D : Dr G d wp cp (n + 1)) (hq : G q = some (.lst ys)) (nq : q ≠ wp) (h0 : 0 < ys.length) (h1 : ys.length < 1000000) (g : ∀ y ∈ ys, Good B l G y)
    (k : ∀ y G', Good B l G' y → Dr G' d wp cp n → But d wp G G' → Q y G') : spPick [.ref d, .ref q] G Q E :=
  ⟨d, wp, cp, q, n, ys, rfl, D, hq, nq, h0, h1, fun i y H' hy D' B' => k y H' ((g y (List.mem_of_getElem? hy)).soft (soft_but D D' B')) D' B'⟩
/-- the same of a list that was just made -/
theorem pick_new {d wp cp q : Addr} {n B l : Nat} {ys : List V} {G : Hp} {Q : VK} {E : XK} (D : Dr G d wp cp (n + 1)) (nq : G q = none) (h0 : 0 < ys.length) (h1 : ys.length < 1000000) (g : ∀ y ∈ ys, Good B l G y)
    (k : ∀ y G', Good B l G' y → Dr G' d wp cp n → But d wp G G' → Q y G') : spPick [.ref d, .ref q] (upd G q (.lst ys)) Q E := by
  have kq : Kp G (upd G q (.lst ys)) := Kp.refl.new nq
  refine pick_good (dr_same kq D) upd_same ?_ h0 h1 (fun y hy => (g y hy).keep kq) fun y G' a b c => k y G' a b (But.trans (But.ofK kq) c)
  intro z
  obtain ⟨ws, cs, r, t, a, _⟩ := D
  rw [z, a.wl] at nq; cases nq
def tFin : TA := tCons (tC .non) (tCons (tC (.int 5)) (tCons (tC (.bl true)) (tCons (tC (.str "zzzzzzzz")) (tCons (tTup tNil) (tCons (tLst tNil) (tCons tDNewK (tCons (tTup (tCons (tC (.str "call")) (tCons (tC (.str "a")) (tCons (tTup (tCons (tC (.str "b")) tNil)) tNil)))) (tCons (tTup (tCons (tC .non) tNil)) (tCons (tUn (rU fun i => .int (-i)) (tC (.int 1))) tNil)))))))))
theorem fin_go {d wp cp : Addr} {n B l : Nat} {σ : L2.St} {G : Hp} {Q : VK} (hB : 5 ≤ B) (hB2 : B ≤ 100000) (hl : 9 ≤ l) (hl2 : l ≤ 100000) (hd : σ[0]? = some (some (.ref d))) (D : Dr G d wp cp (n + 1)) (k : ∀ y G', Good B l G' y → Dr G' d wp cp n → But d wp G G' → Q y G') :
    tCall spPick [] E0 (tCons (tVar 0) (tCons (tLst tFin) tNil)) σ G Q := by
  refine ⟨_, hd, ?_⟩
  refine ⟨Nat.zero_le _, fun p1 n1 => ?_⟩
  have k1 : Kp G (upd G p1 (.tup [])) := Kp.refl.new n1
  have h1 : (upd G p1 (.tup [])) p1 = some (.tup []) := upd_same
  generalize upd G p1 (.tup []) = G1 at k1 h1
  refine ⟨Nat.zero_le _, fun p2 n2 => ?_⟩
  have k2 : Kp G1 (upd G1 p2 (.lst [])) := Kp.refl.new n2
  have h2 : (upd G1 p2 (.lst [])) p2 = some (.lst []) := upd_same
  generalize upd G1 p2 (.lst []) = G2 at k2 h2
  refine fun p3 n3 => ?_
  have k3 : Kp G2 (upd G2 p3 (.dK [])) := Kp.refl.new n3
  have h3 : (upd G2 p3 (.dK [])) p3 = some (.dK []) := upd_same
  generalize upd G2 p3 (.dK []) = G3 at k3 h3
  refine ⟨show 1 ≤ sizeLine by decide, fun p4 n4 => ?_⟩
  have k4 : Kp G3 (upd G3 p4 (.tup [.str "b"])) := Kp.refl.new n4
  have h4 : (upd G3 p4 (.tup [.str "b"])) p4 = some (.tup [.str "b"]) := upd_same
  generalize upd G3 p4 (.tup [.str "b"]) = G4 at k4 h4
  refine ⟨show 3 ≤ sizeLine by decide, fun p5 n5 => ?_⟩
  have k5 : Kp G4 (upd G4 p5 (.tup [.str "call", .str "a", .ref p4])) := Kp.refl.new n5
  have h5 : (upd G4 p5 (.tup [.str "call", .str "a", .ref p4])) p5 = some (.tup [.str "call", .str "a", .ref p4]) := upd_same
  generalize upd G4 p5 (.tup [.str "call", .str "a", .ref p4]) = G5 at k5 h5
  refine ⟨show 1 ≤ sizeLine by decide, fun p6 n6 => ?_⟩
  have k6 : Kp G5 (upd G5 p6 (.tup [.non])) := Kp.refl.new n6
  have h6 : (upd G5 p6 (.tup [.non])) p6 = some (.tup [.non]) := upd_same
  generalize upd G5 p6 (.tup [.non]) = G6 at k6 h6
  refine ⟨1, rfl, show 10 ≤ sizeLine by decide, fun p7 n7 => ?_⟩
  have kk := ((((k1.trans k2).trans k3).trans k4).trans k5).trans k6
  unfold tNil
  dsimp only
  refine pick_new (B := B) (l := l) (dr_same kk D) n7 (by simp) (by simp) ?_ fun y G' a b c => k y G' a b (But.trans (But.ofK kk) c)
  have wb : IsTh G6 (.str "b") (sT "b") := isTh_word (by decide +kernel)
  have wa : IsTh G6 (.str "a") (sT "a") := isTh_word (by decide +kernel)
  have wc : IsTh G6 (.str "call") (sT "call") := isTh_word (by decide +kernel)
  have e4 : IsTh G6 (.ref p4) (.tup [sT "b"]) := Eth.th (.one wb) (k6 _ _ (k5 _ _ h4)) (by decide)
  intro y hy
  simp only [List.mem_cons, List.not_mem_nil, or_false] at hy
  rcases hy with rfl | rfl | rfl | rfl | rfl | rfl | rfl | rfl | rfl | rfl
  · exact good_non (by omega)
  · exact good_int 5 (by show 5 ≤ l; omega) (by omega)
  · exact good_bl true (by omega)
  · exact good_lit "zzzzzzzz" (by decide +kernel) hl hl2 (by omega)
  · exact good_tup (ts := []) (k6 _ _ (k5 _ _ (k4 _ _ (k3 _ _ (k2 _ _ h1))))) .nil (by rw [szs_nil]; omega) (fun t ht => by simp at ht) hB2
  · exact good_lst (k6 _ _ (k5 _ _ (k4 _ _ (k3 _ _ h2)))) (by omega)
  · exact good_dic (k6 _ _ (k5 _ _ (k4 _ _ h3))) (by omega)
  · refine good_tup (ts := [sT "call", sT "a", .tup [sT "b"]]) (k6 _ _ h5) (.cons wc (.cons wa (.one e4))) (by simp [szs, sz_sT, sz_tup]; omega) (fun t ht => ?_) hB2
    simp only [List.mem_cons, List.not_mem_nil, or_false] at ht
    rcases ht with rfl | rfl | rfl
    · exact lf_sT (Nat.le_trans (by decide +kernel) hl)
    · exact lf_sT (Nat.le_trans (by decide +kernel) hl)
    · rw [lf_tup, lfs_all]
      simp only [List.all_cons, List.all_nil, Bool.and_true]
      exact lf_sT (Nat.le_trans (by decide +kernel) hl)
  · exact good_tup (ts := [.non]) h6 (.one .non) (by simp [szs, sz]; omega) (fun t ht => by rw [List.mem_singleton.mp ht]; simp [lf]) hB2
  · exact good_int (-1) (by show 1 ≤ l; omega) (by omega)
end Oa

set_option Elab.async false
set_option linter.all false
set_option maxRecDepth 100000
set_option maxHeartbeats 4000000
/-! the law's own: odd. -/
namespace Od
open PySem PySem.Spec PyProof.Rows L2 Sx Rp Dw NdefX GxR Rw Th Kd Gx Nm Hs Pr Ps RZ Lw Lh Lp Lq Ez En An Ah La Lb Li Ln Lo Lr Sb Pa Pp Lz Oa
abbrev sOdd : Stmt := topS 45
theorem scOd : FnScope ["draw", "part", "names", "at", "some"] ["draw", "part", "names"] (defScope sOdd) := ⟨rfl, rfl, rfl, by decide +kernel, rfl, by decide +kernel, by decide +kernel⟩
section
variable {P : Program} {w : World} {K : PySem.W.Frag} {mg : Str → Option Value} {base : Heap} {T : List Addr}
def spOdd : Sp := fun vs H Q _ => ∃ (d wp cp na : Addr) (n l : Nat) (pv' : V) (u : Th) (ns : List Str), vs = [.ref d, pv', .ref na] ∧ IsTh H pv' u ∧ sz u ≤ 10000 ∧ lf l u = true ∧ 100 ≤ l ∧ l ≤ 1000 ∧ H na = some (.lst (ns.map V.str)) ∧ na ≠ wp ∧ (∀ s ∈ ns, Nam s) ∧ ns.length ≤ 100 ∧ Dr H d wp cp (n + 3) ∧
  ∀ y H', Good (2 * sz u + 5) (l + 2) H' y → Dr H' d wp cp n → But d wp H H' → Q y H'
theorem ok_odd {f ft fp : Addr} {fd td pd : FuncData} (F : Fun K "_law_odd" "_law_odd" sOdd f fd) (mi : mg "isinstance" = none) (mt : mg "tuple" = none) (mS : mg "str" = none) (mI : mg "int" = none) (mB : mg "bool" = none) (mL : mg "list" = none) (ml : mg "len" = none)
    (Ft : FnOk P w K mg base CX0 2 ft td ["draw", "many"] spTake) (mT : mg "_law_take" = some (.ref ft)) (kT : PySem.W.keepIn K (.ref ft) = true) (bT : Binds K td ["draw", "many"] [])
    (Fp : FnOk P w K mg base CX0 3 fp pd ["draw", "some"] spPick) (mp : mg "_law_pick" = some (.ref fp)) (kp : PySem.W.keepIn K (.ref fp) = true) (bp : Binds K pd ["draw", "some"] []) : FnOk P w K mg base CX0 4 f fd ["draw", "part", "names"] spOdd := by
  refine F.ok scOd (fun vs H Q E h => ?_) (fun cdv A outer s H vs Q E hr h => ?_)
  · obtain ⟨d, wp, cp, na, n, l, pv', u, ns, rfl, _⟩ := h
    rfl
  · obtain ⟨d, wp, cp, na, n, l, pv', u, ns, rfl, h, hsz, hlf, hl1, hl2, hna, hnw, hns, hnl, D, k⟩ := h
    refine ⟨_, pss_cons (ps_if (PW.pt (pw_and (pt_val (pe_callB call_isi (by rfl) mi (by decide +kernel) (pa_cons (pv 1) (pa_cons (pe_bltn (v := .ty "tuple") (by rfl) mt (by decide +kernel) rfl) pa_nil)))) (pw_and1 (pt_cmpR op_gt (pe_call Ft (hr.mono (by decide)) (by rfl) mT kT bT .nil pass0 (pa_cons (pv 0) (pa_cons pe_int pa_nil))) pe_int (nomark _)))))
        (pss_cons (ps_set (i := 3) scOd.nd rfl (Or.inl rfl) (pe_call Ft (hr.mono (by decide)) (by rfl) mT kT bT .nil pass0 (pa_cons (pv 0) (pa_cons (pe_op op_add (pe_callB call_len_seq (by rfl) ml PySem.boot_len (pa_cons (pv 1) pa_nil)) pe_int) pa_nil))))
        (pss_cons (ps_set (i := 4) scOd.nd rfl (Or.inl rfl) (pe_lst (pa_cons (pe_op op_catA (pe_slice sl_tupA (pv 1) po_none (po_some (pv 3))) (pe_slice sl_tupA (pv 1) (po_some (pe_op op_add (pv 3) pe_int)) po_none))
          (pa_cons (pe_op op_catA (pe_op op_catA (pe_slice sl_tupA (pv 1) po_none (po_some (pv 3))) (pe_slice sl_tupA (pv 1) (po_some (pv 3)) (po_some (pe_op op_add (pv 3) pe_int)))) (pe_slice sl_tupA (pv 1) (po_some (pv 3)) po_none))
          (pa_cons (pe_revT (pv 1)) (pa_cons (pe_callTy call_list_of (by rfl) mL (by decide +kernel) (pa_cons (pv 1) pa_nil)) (pa_cons (pe_op op_catA (pv 1) (pe_tup (pa_cons pe_non pa_nil))) (pa_cons (pe_tup pa_nil) pa_nil))))))))
        (pss_one (ps_ret (pe_call Fp hr (by rfl) mp kp bp .nil pass0 (pa_cons (pv 0) (pa_cons (pv 4) pa_nil))))))) pss_nil)
      (pss_cons (ps_if (PW.pt (pw_and (pt_val (pe_callB call_isi (by rfl) mi (by decide +kernel) (pa_cons (pv 1) (pa_cons (pe_bltn (v := .ty "str") (by rfl) mS (by decide +kernel) rfl) pa_nil)))) (pw_and1 (pt_cmpR op_gt (pe_call Ft (hr.mono (by decide)) (by rfl) mT kT bT .nil pass0 (pa_cons (pv 0) (pa_cons pe_int pa_nil))) pe_int (nomark _)))))
        (pss_one (ps_ret (pe_call Fp hr (by rfl) mp kp bp .nil pass0 (pa_cons (pv 0) (pa_cons (pe_op op_cat (pv 2) (pe_lst (pa_cons pe_str (pa_cons pe_str (pa_cons pe_str (pa_cons pe_str (pa_cons pe_str (pa_cons (pe_op op_add_str (pv 1) pe_str) (pa_cons (pe_tup (pa_cons (pv 1) pa_nil)) pa_nil))))))))) pa_nil))))) pss_nil)
      (pss_cons (ps_if (PW.pt (pw_and (pt_val (pe_callB call_isi (by rfl) mi (by decide +kernel) (pa_cons (pv 1) (pa_cons (pe_bltn (v := .ty "int") (by rfl) mI (by decide +kernel) rfl) pa_nil)))) (pw_and (pt_not (pt_val (pe_callB call_isi (by rfl) mi (by decide +kernel) (pa_cons (pv 1) (pa_cons (pe_bltn (v := .ty "bool") (by rfl) mB (by decide +kernel) rfl) pa_nil)))))
          (pw_and1 (pt_cmpR op_gt (pe_call Ft (hr.mono (by decide)) (by rfl) mT kT bT .nil pass0 (pa_cons (pv 0) (pa_cons pe_int pa_nil))) pe_int (nomark _))))))
        (pss_one (ps_ret (pe_call Fp hr (by rfl) mp kp bp .nil pass0 (pa_cons (pv 0) (pa_cons (pe_lst (pa_cons (pe_op op_add (pv 1) pe_int) (pa_cons (pe_op op_sub (pv 1) pe_int) (pa_cons (pe_un un_neg pe_int) (pa_cons pe_int (pa_cons pe_int (pa_cons pe_bl (pa_cons pe_bl (pa_cons (pe_callTy call_str_int (by rfl) mS (by decide +kernel) (pa_cons (pv 1) pa_nil)) pa_nil))))))))) pa_nil))))) pss_nil)
      (pss_one (ps_ret (pe_call Fp hr (by rfl) mp kp bp .nil pass0 (pa_cons (pv 0) (pa_cons (pe_lst (pa_cons pe_non (pa_cons pe_int (pa_cons pe_bl (pa_cons pe_str (pa_cons (pe_tup pa_nil) (pa_cons (pe_lst pa_nil) (pa_cons pe_dnewK (pa_cons (pe_tup (pa_cons pe_str (pa_cons pe_str (pa_cons (pe_tup (pa_cons pe_str pa_nil)) pa_nil))))
        (pa_cons (pe_tup (pa_cons pe_non pa_nil)) (pa_cons (pe_un un_neg pe_int) pa_nil))))))))))) pa_nil))))))), ?_⟩
    have fin : ∀ (G : Hp) (m : Nat), n ≤ m → Dr G d wp cp (m + 1) → But d wp H G → ∀ σ : L2.St, σ[0]? = some (some (.ref d)) → tCall spPick [] E0 (tCons (tVar 0) (tCons (tLst tFin) tNil)) σ G Q := fun G m hm DG BG σ hd => by
      have := sz_pos u
      exact fin_go (B := 2 * sz u + 5) (l := l + 2) (by omega) (by omega) (by omega) (by omega) hd DG fun y G' a b c => k y G' a (dr_le hm b) (But.trans BG c)
    have hB := sz_pos u
    obtain ⟨ty, y, e1, e2, e3, e4⟩ := ty_of (K := K) h
    refine ⟨_, rfl, pv', .ty "tuple", ty, .type "tuple", _, rfl, .ty "tuple", y, e2, _, rfl, ?_⟩
    have far := D
    cases h with
    | non =>
      refine iteF' rfl (iteF' rfl ⟨_, rfl, _, .ty "str", ty, .type "str", _, rfl, .ty "str", y, e1, _, rfl, iteF' rfl (iteF' rfl ⟨_, rfl, _, .ty "int", ty, .type "int", _, rfl, .ty "int", y, e3, _, rfl, iteF' rfl (iteF' rfl ?_)⟩)⟩)
      exact fin H (n + 2) (by omega) D But.refl _ rfl
    | lst a xs ha =>
      refine iteF' rfl (iteF' rfl ⟨_, rfl, _, .ty "str", ty, .type "str", _, rfl, .ty "str", y, e1, _, rfl, iteF' rfl (iteF' rfl ⟨_, rfl, _, .ty "int", ty, .type "int", _, rfl, .ty "int", y, e3, _, rfl, iteF' rfl (iteF' rfl ?_)⟩)⟩)
      exact fin H (n + 2) (by omega) D But.refl _ rfl
    | dic a xs ha =>
      refine iteF' rfl (iteF' rfl ⟨_, rfl, _, .ty "str", ty, .type "str", _, rfl, .ty "str", y, e1, _, rfl, iteF' rfl (iteF' rfl ⟨_, rfl, _, .ty "int", ty, .type "int", _, rfl, .ty "int", y, e3, _, rfl, iteF' rfl (iteF' rfl ?_)⟩)⟩)
      exact fin H (n + 2) (by omega) D But.refl _ rfl
    | bl b =>
      refine iteF' rfl (iteF' rfl ⟨_, rfl, _, .ty "str", ty, .type "str", _, rfl, .ty "str", y, e1, _, rfl, iteF' rfl (iteF' rfl ⟨_, rfl, _, .ty "int", ty, .type "int", _, rfl, .ty "int", y, e3, _, rfl, iteT' rfl ⟨_, rfl, _, .ty "bool", ty, .type "bool", _, rfl, .ty "bool", y, e4, _, rfl, iteF' rfl (iteF' rfl ?_)⟩⟩)⟩)
      exact fin H (n + 2) (by omega) D But.refl _ rfl
    | int i =>
      have hi : i.natAbs ≤ l := by simpa [lf] using hlf
      refine iteF' rfl (iteF' rfl ⟨_, rfl, _, .ty "str", ty, .type "str", _, rfl, .ty "str", y, e1, _, rfl, iteF' rfl (iteF' rfl ⟨_, rfl, _, .ty "int", ty, .type "int", _, rfl, .ty "int", y, e3, _, rfl, iteT' rfl ⟨_, rfl, _, .ty "bool", ty, .type "bool", _, rfl, .ty "bool", y, e4, _, rfl, iteT' rfl ?_⟩⟩)⟩)
      refine ⟨_, rfl, d, wp, cp, n + 2, 3, rfl, D, by decide, by decide, fun v G v0 v1 DG BG => ⟨_, _, rfl, rfl, _, rfl, ?_⟩⟩
      by_cases hv : v > 0
      · refine iteT' (decide_eq_true hv) ?_
        refine ⟨_, rfl, _, rfl, _, _, rfl, rfl, _, rfl, _, _, rfl, rfl, 1, rfl, _, rfl, i, rfl, ?_, show 8 ≤ sizeLine by decide, fun p np => ?_⟩
        · have hlog : i.natAbs.log2 < 10 := by
            by_cases h0 : i.natAbs = 0
            · rw [h0]; decide
            · exact (Nat.log2_lt h0).mpr (Nat.lt_of_le_of_lt (show i.natAbs ≤ 1000 by omega) (by decide))
          omega
        unfold tNil
        dsimp only
        refine pick_new (B := 2 * sz (.int i) + 5) (l := l + 2) DG np (by simp) (by simp) ?_ fun y G' a b c => k y G' a (dr_le (by omega) b) (But.trans BG c)
        intro y hy
        have ht := int_txt i (by omega)
        simp only [List.mem_cons, List.not_mem_nil, or_false] at hy
        rcases hy with rfl | rfl | rfl | rfl | rfl | rfl | rfl | rfl
        · exact good_int _ (by omega) (by omega)
        · exact good_int _ (by omega) (by omega)
        · exact good_int (-1) (by show 1 ≤ l + 2; omega) (by omega)
        · exact good_int 0 (by show 0 ≤ l + 2; omega) (by omega)
        · exact good_int 1 (by show 1 ≤ l + 2; omega) (by omega)
        · exact good_bl _ (by omega)
        · exact good_bl _ (by omega)
        · exact good_str _ (by omega) ht.2 (by omega) (by omega)
      · refine iteF' (decide_eq_false hv) ?_
        exact fin G (n + 1) (by omega) DG BG _ rfl
    | str z hz =>
      obtain ⟨hz1, hz2⟩ := hz
      have hzl : z.length ≤ l := by simpa [lf] using hlf
      refine iteF' rfl (iteF' rfl ⟨_, rfl, _, .ty "str", ty, .type "str", _, rfl, .ty "str", y, e1, _, rfl, iteT' rfl ?_⟩)
      refine ⟨_, rfl, d, wp, cp, n + 2, 3, rfl, D, by decide, by decide, fun v G v0 v1 DG BG => ⟨_, _, rfl, rfl, _, rfl, ?_⟩⟩
      have sG : Soft H G := soft_but D DG BG
      by_cases hv : v > 0
      · refine iteT' (decide_eq_true hv) ?_
        have hnd : na ≠ d := by
          intro z
          obtain ⟨ws, cs, r, t, a, _⟩ := D
          rw [z, a.dc] at hna; cases hna
        have hnaG := BG _ _ hna hnd hnw
        have ex : (⟨z.toArray⟩ : Str) ++ ("x" : Str) = ⟨(z ++ [120]).toArray⟩ := by
          show (⟨z.toArray ++ (Str.ofString "x").cps⟩ : Str) = _
          rw [show (Str.ofString "x").cps = #[120] by decide +kernel]
          simp
        refine ⟨_, rfl, _, rfl, _, rfl, ⟨z.toArray⟩, _, rfl, rfl, by rw [len_arr, sizeLine_eq]; show z.length + 1 ≤ _; omega, _, rfl, show 1 ≤ sizeLine by decide, fun p1 n1 => ⟨show 7 ≤ sizeLine by decide, fun p2 n2 => ?_⟩⟩
        have k1 : Kp G (upd G p1 (.tup [.str ⟨z.toArray⟩])) := Kp.refl.new n1
        have h1 : (upd G p1 (.tup [.str ⟨z.toArray⟩])) p1 = some (.tup [.str ⟨z.toArray⟩]) := upd_same
        generalize upd G p1 (.tup [.str ⟨z.toArray⟩]) = G1 at k1 h1 n2 ⊢
        refine ⟨na, p2, _, _, rfl, rfl, (Kp.refl.new n2 : Kp G1 _) _ _ (k1 _ _ hnaG), upd_same, by rw [List.length_map, sizeLine_eq]; simp only [List.length_cons, List.length_nil]; omega, fun p3 n3 => ?_⟩
        have k2 : Kp G1 (upd G1 p2 (.lst [.str "", .str "Abc", .str "a1", .str "call", .str "abcdefghi", .str ((⟨z.toArray⟩ : Str) ++ ("x" : Str)), .ref p1])) := Kp.refl.new n2
        unfold tNil
        dsimp only
        refine pick_new (B := 2 * sz (.str z) + 5) (l := l + 2) (dr_same (k1.trans k2) DG) n3 (by simp) (by simp; omega) ?_ fun y G' a b c => k y G' a (dr_le (by omega) b) (But.trans (But.trans BG (But.ofK (k1.trans k2))) c)
        intro y hy
        rcases List.mem_append.mp hy with hy | hy
        · obtain ⟨s0, hs0, rfl⟩ := List.mem_map.mp hy
          have q := hns s0 hs0
          obtain ⟨z0, rfl, hc0, hl0⟩ := q.pl
          exact good_str _ (by simp; omega) (by simpa using hc0) (by omega) (by omega)
        · simp only [List.mem_cons, List.not_mem_nil, or_false] at hy
          rcases hy with rfl | rfl | rfl | rfl | rfl | rfl | rfl
          · exact good_lit "" (by decide +kernel) (by omega) (by omega) (by omega)
          · exact good_lit "Abc" (by decide +kernel) (by omega) (by omega) (by omega)
          · exact good_lit "a1" (by decide +kernel) (by omega) (by omega) (by omega)
          · exact good_lit "call" (by decide +kernel) (by omega) (by omega) (by omega)
          · exact good_lit "abcdefghi" (by decide +kernel) (by omega) (by omega) (by omega)
          · rw [ex]
            refine good_str _ (by simp; omega) (fun c hc => ?_) (by omega) (by omega)
            have hc' : c ∈ z ++ [120] := by simpa using hc
            rcases List.mem_append.mp hc' with hc' | hc'
            · exact hz2 c hc'
            · rw [List.mem_singleton.mp hc']; decide
          · refine good_tup (ts := [.str z]) (k2 _ _ h1) (.one (.str z ⟨hz1, hz2⟩)) (by simp [szs, sz]) (fun t ht => ?_) (by omega)
            rw [List.mem_singleton.mp ht]; simp [lf]; omega
      · have hG := sG.th (IsTh.str (H := H) z ⟨hz1, hz2⟩)
        obtain ⟨ty, y, e1, e2, e3, e4⟩ := ty_of (K := K) hG
        refine iteF' (decide_eq_false hv) ⟨_, rfl, _, .ty "int", ty, .type "int", _, rfl, .ty "int", y, e3, _, rfl, iteF' rfl (iteF' rfl ?_)⟩
        exact fin G (n + 1) (by omega) DG BG _ rfl
    | tup a xs ts ha la z ea =>
      have e0 : Eth H xs ts := ⟨la, ea⟩
      have hs1 := sz_tup ts
      have hs2 := szs_len ts
      have hlt : ∀ t ∈ ts, lf l t = true := by
        rw [lf_tup, lfs_all] at hlf
        exact List.all_eq_true.mp hlf
      have hlt2 : ∀ t ∈ ts, lf (l + 2) t = true := fun t ht => lf_mono (by omega) _ t (Nat.le_refl _) (hlt t ht)
      refine iteT' rfl ⟨_, rfl, d, wp, cp, n + 2, 3, rfl, D, by decide, by decide, fun v G v0 v1 DG BG => ⟨_, _, rfl, rfl, _, rfl, ?_⟩⟩
      have sG : Soft H G := soft_but D DG BG
      by_cases hv : v > 0
      · refine iteT' (decide_eq_true hv) ?_
        refine ⟨_, rfl, _, rfl, a, xs, rfl, .inr (SqT.of (sG.tup _ _ ha)), _, _, rfl, rfl, d, wp, cp, n + 1, _, rfl, DG, by omega, by omega, fun at0 G0 a0 a1 D0 B0 => ?_⟩
        have sG0 : Soft H G0 := sG.trans (soft_but DG D0 B0)
        have hG0 := sG0.tup _ _ ha
        have eG0 : Eth G0 xs ts := ⟨la, fun i v t h1 h2 => sG0.th (ea i v t h1 h2)⟩
        obtain ⟨j, rfl⟩ : ∃ j : Nat, at0 = (j : Int) := ⟨at0.toNat, by omega⟩
        refine ⟨_, rfl, _, rfl, _, rfl, ?_⟩
        refine sl_go hG0 (fun p1 H1 k1 h1 => ?_)
        rw [cut_to] at h1
        refine ⟨_, rfl, _, rfl, _, _, rfl, rfl, _, rfl, ?_⟩
        unfold tNoPart
        dsimp only
        refine sl_go (k1 _ _ hG0) (fun p2 H2 k2 h2 => ?_)
        have ec2 : cutV xs (some ((j : Int) + 1)) none = xs.drop (j + 1) := cut_from xs (j + 1)
        rw [ec2] at h2
        refine cat_go (k2 _ _ h1) h2 (by rw [List.length_take, List.length_drop, sizeLine_eq]; omega) (fun p3 H3 k3 h3 => ?_)
        have k03 := (k1.trans k2).trans k3
        refine ⟨_, rfl, _, rfl, _, rfl, ?_⟩
        refine sl_go (k03 _ _ hG0) (fun p4 H4 k4 h4 => ?_)
        rw [cut_to] at h4
        have k04 := k03.trans k4
        refine ⟨_, rfl, _, rfl, _, rfl, _, rfl, _, _, rfl, rfl, _, rfl, ?_⟩
        refine sl_go (k04 _ _ hG0) (fun p5 H5 k5 h5 => ?_)
        have ec5 : cutV xs (some (j : Int)) (some ((j : Int) + 1)) = (xs.drop j).take 1 := cut_mid xs j
        rw [ec5] at h5
        have k05 := k04.trans k5
        refine cat_go (k5 _ _ h4) h5 (by rw [List.length_take, List.length_take, List.length_drop, sizeLine_eq]; omega) (fun p6 H6 k6 h6 => ?_)
        have k06 := k05.trans k6
        refine ⟨_, rfl, _, rfl, _, rfl, ?_⟩
        dsimp only
        refine sl_go (k06 _ _ hG0) (fun p7 H7 k7 h7 => ?_)
        rw [cut_from] at h7
        refine cat_go (k7 _ _ h6) h7 (by rw [List.length_append, List.length_take, List.length_take, List.length_drop, sizeLine_eq]; omega) (fun p8 H8 k8 h8 => ?_)
        have k08 := (k06.trans k7).trans k8
        refine ⟨_, rfl, a, xs, rfl, SqT.of (k08 _ _ hG0), fun p9 n9 => ?_⟩
        have k9 : Kp H8 (upd H8 p9 (.tup xs.reverse)) := Kp.refl.new n9
        have h9 : (upd H8 p9 (.tup xs.reverse)) p9 = some (.tup xs.reverse) := upd_same
        generalize upd H8 p9 (.tup xs.reverse) = H9 at k9 h9 ⊢
        have k09 := k08.trans k9
        refine ⟨_, rfl, a, xs, rfl, .inr (SqT.of (k09 _ _ hG0)), fun q1 m1 => ?_⟩
        have kq1 : Kp H9 (upd H9 q1 (.lst xs)) := Kp.refl.new m1
        have hq1 : (upd H9 q1 (.lst xs)) q1 = some (.lst xs) := upd_same
        generalize upd H9 q1 (.lst xs) = I1 at kq1 hq1 ⊢
        have k10 := k09.trans kq1
        refine ⟨_, rfl, show 1 ≤ sizeLine by decide, fun q2 m2 => ?_⟩
        have kq2 : Kp I1 (upd I1 q2 (.tup [.non])) := Kp.refl.new m2
        have hq2 : (upd I1 q2 (.tup [.non])) q2 = some (.tup [.non]) := upd_same
        generalize upd I1 q2 (.tup [.non]) = I2 at kq2 hq2 ⊢
        have k11 := k10.trans kq2
        refine cat_go (k11 _ _ hG0) hq2 (by rw [sizeLine_eq]; simp only [List.length_cons, List.length_nil]; omega) (fun q3 I3 kq3 hq3 => ?_)
        have k12 := k11.trans kq3
        refine ⟨Nat.zero_le _, fun q4 m4 => ?_⟩
        have kq4 : Kp I3 (upd I3 q4 (.tup [])) := Kp.refl.new m4
        have hq4 : (upd I3 q4 (.tup [])) q4 = some (.tup []) := upd_same
        generalize upd I3 q4 (.tup []) = I4 at kq4 hq4 ⊢
        have k13 := k12.trans kq4
        refine ⟨show 6 ≤ sizeLine by decide, fun L nL => ⟨_, rfl, _, rfl, ?_⟩⟩
        unfold tNil
        dsimp only
        have eF := eG0.keep k13
        have w3 := (szs_split ts j)
        have w4 := szs_drop1 ts j
        have w5 := szs_take1 ts j
        have w6 := szs_rev ts
        refine pick_new (B := 2 * sz (.tup ts) + 5) (l := l + 2) (dr_same k13 D0) nL (by simp) (by simp) ?_ fun y G' a b c => k y G' a b (But.trans (But.trans (But.trans BG B0) (But.ofK k13)) c)
        intro y hy
        simp only [List.mem_cons, List.not_mem_nil, or_false] at hy
        have k3f : Kp H3 I4 := ((((((((k4.trans k5).trans k6).trans k7).trans k8).trans k9).trans kq1).trans kq2).trans kq3).trans kq4
        have k8f : Kp H8 I4 := ((((k9.trans kq1).trans kq2).trans kq3).trans kq4)
        rcases hy with rfl | rfl | rfl | rfl | rfl | rfl
        · refine good_tup (ts := ts.take j ++ ts.drop (j + 1)) (k3f _ _ h3) ((eF.take j).append (eF.drop (j + 1))) (by rw [szs_append]; omega) (fun t ht => ?_) (by omega)
          rcases List.mem_append.mp ht with ht | ht
          · exact hlt2 t (List.mem_of_mem_take ht)
          · exact hlt2 t (List.mem_of_mem_drop ht)
        · refine good_tup (ts := (ts.take j ++ (ts.drop j).take 1) ++ ts.drop j) (k8f _ _ h8) (((eF.take j).append ((eF.drop j).take 1)).append (eF.drop j)) (by rw [szs_append, szs_append]; omega) (fun t ht => ?_) (by omega)
          rcases List.mem_append.mp ht with ht | ht
          · rcases List.mem_append.mp ht with ht | ht
            · exact hlt2 t (List.mem_of_mem_take ht)
            · exact hlt2 t (List.mem_of_mem_drop (List.mem_of_mem_take ht))
          · exact hlt2 t (List.mem_of_mem_drop ht)
        · exact good_tup (ts := ts.reverse) ((((kq1.trans kq2).trans kq3).trans kq4) _ _ h9) eF.rev (by omega) (fun t ht => hlt2 t (List.mem_reverse.mp ht)) (by omega)
        · exact good_lst (((kq2.trans kq3).trans kq4) _ _ hq1) (by omega)
        · refine good_tup (ts := ts ++ [.non]) (kq4 _ _ hq3) (eF.append (.one .non)) (by rw [szs_append]; simp [szs, sz]; omega) (fun t ht => ?_) (by omega)
          rcases List.mem_append.mp ht with ht | ht
          · exact hlt2 t ht
          · rw [List.mem_singleton.mp ht]; simp [lf]
        · exact good_tup (ts := []) hq4 .nil (by rw [szs_nil]; omega) (fun t ht => by simp at ht) (by omega)
      · have hG := sG.th (IsTh.tup (H := H) a xs ts ha la z ea)
        obtain ⟨ty, y, e1, e2, e3, e4⟩ := ty_of (K := K) hG
        refine iteF' (decide_eq_false hv) ⟨_, rfl, _, .ty "str", ty, .type "str", _, rfl, .ty "str", y, e1, _, rfl, iteF' rfl (iteF' rfl ⟨_, rfl, _, .ty "int", ty, .type "int", _, rfl, .ty "int", y, e3, _, rfl, iteF' rfl (iteF' rfl ?_)⟩)⟩
        exact fin G (n + 1) (by omega) DG BG _ rfl
end
end Od

set_option Elab.async false
set_option linter.all false
set_option maxRecDepth 100000
set_option maxHeartbeats 2000000
/-! the law's own: bent, bad_word. -/
namespace Be
open PySem PySem.Spec PyProof.Rows L2 Sx Rp Dw NdefX GxR Rw Th Kd Gx Nm Hs Pr Ps RZ Lw Lh Lp Lq Ez En An Ah La Lb Li Ln Lo Lr Sb Pa Pp Lz Oa Od
abbrev sBent : Stmt := topS 46
abbrev sBad : Stmt := topS 56
theorem scBe : FnScope ["draw", "thing", "names", "path"] ["draw", "thing", "names"] (defScope sBent) := ⟨rfl, rfl, rfl, by decide +kernel, rfl, by decide +kernel, by decide +kernel⟩
theorem scBw : FnScope ["draw", "house", "word", "call"] ["draw", "house", "word"] (defScope sBad) := ⟨rfl, rfl, rfl, by decide +kernel, rfl, by decide +kernel, by decide +kernel⟩
theorem put_sz' : ∀ (p : List Nat) {t u0 : Th} (u : Th), pAt t p = some u0 → sz (pPut t p u) + sz u0 = sz t + sz u
  | [], t, u0, u, h => by cases h; show sz u + _ = _; omega
  | k :: r, t, u0, u, h => by
    obtain ⟨u1, h1, h2⟩ := Option.bind_eq_some_iff.mp h
    obtain ⟨ts, rfl, h1'⟩ := kid_tup h1
    have e : ts.getD k .non = u1 := by rw [List.getD_eq_getElem?_getD, h1']; rfl
    have ih := put_sz' r u h2
    have := szs_at h1'
    show sz (.tup (ts.take k ++ (pPut (ts.getD k .non) r u :: ts.drop (k + 1)))) + _ = _
    rw [e, sz_tup, sz_tup, szs_append, szs_cons]
    omega
section
variable {P : Program} {w : World} {K : PySem.W.Frag} {mg : Str → Option Value} {base : Heap} {T : List Addr}
def spBent : Sp := fun vs H Q _ => ∃ (d wp cp na : Addr) (n l : Nat) (v : V) (t : Th) (ns : List Str), vs = [.ref d, v, .ref na] ∧ IsTh H v t ∧ sz t < 145 ∧ lf l t = true ∧ 100 ≤ l ∧ l ≤ 998 ∧ H na = some (.lst (ns.map V.str)) ∧ na ≠ wp ∧ (∀ s ∈ ns, Nam s) ∧ ns.length ≤ 100 ∧ Dr H d wp cp (n + 4) ∧
  ∀ y H', Good (2 * sz t + 5) (l + 2) H' y → Dr H' d wp cp n → But d wp H H' → Q y H'
theorem ok_bent {f fl fa fu fo fp : Addr} {fd ld ad ud od pd : FuncData} (F : Fun K "_law_bent" "_law_bent" sBent f fd)
    (Fl : FnOk P w K mg base CX0 1 fl ld ["thing"] spPlaces) (ml : mg "_law_places" = some (.ref fl)) (kl : PySem.W.keepIn K (.ref fl) = true) (bl : Binds K ld ["thing"] [])
    (Fa : FnOk P w K mg base CX0 1 fa ad ["thing", "path"] spPart) (ma : mg "_law_part_at" = some (.ref fa)) (ka : PySem.W.keepIn K (.ref fa) = true) (ba : Binds K ad ["thing", "path"] [])
    (Fu : FnOk P w K mg base CX0 146 fu ud ["thing", "path", "part"] (spPut 145)) (mu : mg "_law_put_at" = some (.ref fu)) (ku : PySem.W.keepIn K (.ref fu) = true) (bu : Binds K ud ["thing", "path", "part"] [])
    (Fo : FnOk P w K mg base CX0 4 fo od ["draw", "part", "names"] spOdd) (mo : mg "_law_odd" = some (.ref fo)) (ko : PySem.W.keepIn K (.ref fo) = true) (bo : Binds K od ["draw", "part", "names"] [])
    (Fp : FnOk P w K mg base CX0 3 fp pd ["draw", "some"] spPick) (mp : mg "_law_pick" = some (.ref fp)) (kp : PySem.W.keepIn K (.ref fp) = true) (bp : Binds K pd ["draw", "some"] []) : FnOk P w K mg base CX0 147 f fd ["draw", "thing", "names"] spBent := by
  refine F.ok scBe (fun vs H Q E h => ?_) (fun cdv A outer s H vs Q E hr h => ?_)
  · obtain ⟨d, wp, cp, na, n, l, v, t, ns, rfl, _⟩ := h
    rfl
  · obtain ⟨d, wp, cp, na, n, l, v, t, ns, rfl, h, hsz, hlf, hl1, hl2, hna, hnw, hns, hnl, D, k⟩ := h
    refine ⟨_, pss_cons (ps_set (i := 3) scBe.nd rfl (Or.inl rfl) (pe_call Fp (hr.mono (by decide)) (by rfl) mp kp bp .nil pass0 (pa_cons (pv 0) (pa_cons (pe_call Fl (hr.mono (by decide)) (by rfl) ml kl bl .nil pass0 (pa_cons (pv 1) pa_nil)) pa_nil))))
      (pss_one (ps_ret (pe_call Fu hr (by rfl) mu ku bu .nil pass0 (pa_cons (pv 1) (pa_cons (pv 3) (pa_cons (pe_call Fo (hr.mono (by decide)) (by rfl) mo ko bo .nil pass0 (pa_cons (pv 0) (pa_cons (pe_call Fa (hr.mono (by decide)) (by rfl) ma ka ba .nil pass0 (pa_cons (pv 1) (pa_cons (pv 3) pa_nil))) (pa_cons (pv 2) pa_nil)))) pa_nil)))))), ?_⟩
    refine ⟨_, rfl, _, rfl, v, t, rfl, h, by omega, fun p vps G kG np hp l1 l2 hP => ?_⟩
    have hpw : p ≠ wp := by
      intro z
      obtain ⟨ws, cs, r, t, a, _⟩ := D
      rw [z, a.wl] at np; cases np
    have hnd : na ≠ d := by
      intro z
      obtain ⟨ws, cs, r, t, a, _⟩ := D
      rw [z, a.dc] at hna; cases hna
    have DG := dr_same kG D
    refine ⟨d, wp, cp, p, n + 3, vps, rfl, DG, hp, hpw, by omega, by omega, fun i y G1 hy D1 B1 => ?_⟩
    obtain ⟨pa, path, u, rfl, hpa, hat⟩ := hP y (List.mem_of_getElem? hy)
    have s1 : Soft G G1 := soft_but DG D1 B1
    have th1 := s1.th (kG.th h)
    have hasz := pAt_sz path hat
    refine ⟨_, rfl, _, rfl, _, rfl, _, rfl, _, rfl, v, t, pa, path, u, rfl, th1, s1.tup _ _ hpa, hat, fun x hx => ?_⟩
    refine ⟨_, rfl, d, wp, cp, na, n, l, x, u, ns, rfl, hx, by omega, pAt_lf l path hat hlf, hl1, by omega, B1 _ _ (kG _ _ hna) hnd hnw, hnw, hns, hnl, D1, fun y2 G2 hg D2 B2 => ?_⟩
    obtain ⟨u', hu', hs', hl'⟩ := hg
    have s2 : Soft G1 G2 := soft_but D1 D2 B2
    refine ⟨v, t, pa, path, u, y2, u', rfl, by omega, s2.th th1, s2.tup _ _ (s1.tup _ _ hpa), hat, hu', fun v' G3 k3 hv' => ?_⟩
    have hps := put_sz' path u' hat
    refine k v' G3 ⟨_, hv', by omega, ?_⟩ (dr_same k3 D2) (But.trans (But.trans (But.trans (But.ofK kG) B1) B2) (But.ofK k3))
    exact put_lf (l + 2) path u' hat (lf_mono (by omega) _ t (Nat.le_refl _) hlf) hl'
end
end Be

set_option Elab.async false
set_option linter.all false
set_option maxRecDepth 100000
set_option maxHeartbeats 2000000
/-! the law's own: bad_word. -/
namespace Bw
open PySem PySem.Spec PyProof.Rows L2 Sx Rp Dw NdefX GxR Rw Th Kd Gx Nm Hs Pr Ps RZ Lw Lh Lp Lq Ez En An Ah La Lb Li Ln Lo Lr Sb Pa Pp Lz Oa Od Be
/-- a value that is no word -/
def Bad (ns : List Str) (H : Hp) (v : V) : Prop := ∃ u, IsTh H v u ∧ wordT ns u = false
theorem Bad.soft {ns : List Str} {H G : Hp} {v : V} (k : Soft H G) (h : Bad ns H v) : Bad ns G v := let ⟨u, a, b⟩ := h; ⟨u, k.th a, b⟩
theorem among_not {ns : List Str} {s : Str} (h : s ∉ ns) : amongT (sT s) (ns.map V.str) = false := by
  show inV (.str ⟨s.cps.toList.toArray⟩) (ns.map V.str) = false
  rw [sT_arr]
  cases e : inV (.str s) (ns.map V.str) with
  | false => rfl
  | true =>
    obtain ⟨x, hx, he⟩ := List.any_eq_true.mp e
    obtain ⟨y, hy, rfl⟩ := List.mem_map.mp hx
    exfalso
    refine h ?_
    have e9 : y = s := by
      have : (y == s) = true ∨ (s == y) = true := by first | exact .inl he | exact .inr he
      rcases this with q | q
      · exact eq_of_beq q
      · exact (eq_of_beq q).symm
    exact e9 ▸ hy
theorem strs_eth {H : Hp} {ws : List Str} (h : ∀ s ∈ ws, Nam s) : Eth H (ws.map V.str) (ws.map sT) := ⟨by simp, fun i v t h1 h2 => by
  rw [List.getElem?_map] at h1 h2
  obtain ⟨s, hs, rfl⟩ := Option.map_eq_some_iff.mp h1
  rw [hs] at h2
  cases h2
  exact isTh_str (h s (List.mem_of_getElem? hs))⟩
theorem bad_snoc {ns ws : List Str} {H : Hp} {a : Addr} {v : V} {t : Th} (h : H a = some (.tup (ws.map V.str ++ [v]))) (hw : ∀ s ∈ ws, Nam s) (hl : ws.length ≤ 1000) (hv : IsTh H v t) (ht : amongT t (ns.map V.str) = false) : Bad ns H (.ref a) := by
  refine ⟨.tup (ws.map sT ++ [t]), Eth.th ((strs_eth hw).append (.one hv)) h (by simp; omega), ?_⟩
  show (true && (ws.map sT ++ [t]).all _) = false
  rw [Bool.true_and, List.all_append]
  simp only [List.all_cons, List.all_nil, Bool.and_true]
  rw [ht, Bool.and_false]
theorem low_up : ∀ c < 127, low c = true → low (PyProof.Rows.up1 c) = false := by decide +kernel
theorem nam_low {s : Str} (h : Nam s) : ∀ c ∈ s.cps.toList, low c = true := by
  have := h.nm
  unfold isName at this
  simp only [Bool.and_eq_true] at this
  exact fun c hc => List.all_eq_true.mp this.2.1 c hc
theorem nam_ne {s : Str} (h : Nam s) : 1 ≤ s.cps.toList.length := by
  have := h.nm
  unfold isName at this
  simp only [Bool.and_eq_true] at this
  exact of_decide_eq_true this.1.1
theorem up_not {ns : List Str} {s : Str} (h : Nam s) (hn : ∀ x ∈ ns, Nam x) : (Txt.upper s) ∉ ns ∧ (Txt.upper s).cps.toList.length ≤ 100 ∧ ∀ c ∈ (Txt.upper s).cps.toList, c < 127 := by
  obtain ⟨z, rfl, hz, hl⟩ := h.pl
  have e : Txt.upper ⟨z.toArray⟩ = ⟨(z.map PyProof.Rows.up1).toArray⟩ := SX.upper_S (a := z) (List.all_eq_true.mpr fun c hc => decide_eq_true (by have := hz c hc; omega))
  rw [e]
  have l1 := nam_low h
  have l2 := nam_ne h
  refine ⟨fun hm => ?_, by simpa using hl, fun c hc => ?_⟩
  · have q := nam_low (hn _ hm)
    cases z with
    | nil => simp at l2
    | cons c r =>
      have q1 := q (PyProof.Rows.up1 c) (by simp)
      have q2 := low_up c (hz c List.mem_cons_self) (l1 c (by simp))
      rw [q1] at q2; cases q2
  · have hc' : c ∈ z.map PyProof.Rows.up1 := by simpa using hc
    obtain ⟨y, hy, rfl⟩ := List.mem_map.mp hc'
    have q : ((List.range 127).all fun c => decide (PyProof.Rows.up1 c < 127)) = true := by decide +kernel
    exact of_decide_eq_true (List.all_eq_true.mp q y (List.mem_range.mpr (hz y hy)))
theorem pick_newR {R : Hp → V → Prop} (hR : ∀ G G' v, Soft G G' → R G v → R G' v) {d wp cp q : Addr} {n : Nat} {ys : List V} {G : Hp} {Q : VK} {E : XK} (D : Dr G d wp cp (n + 1)) (nq : G q = none) (h0 : 0 < ys.length) (h1 : ys.length < 1000000) (g : ∀ y ∈ ys, R G y)
    (k : ∀ y G', R G' y → Dr G' d wp cp n → But d wp G G' → Q y G') : spPick [.ref d, .ref q] (upd G q (.lst ys)) Q E := by
  have kq : Kp G (upd G q (.lst ys)) := Kp.refl.new nq
  have D1 := dr_same kq D
  refine ⟨d, wp, cp, q, n, ys, rfl, D1, upd_same, ?_, h0, h1, fun i y H' hy D' B' => k y H' (hR _ _ _ (soft_but D1 D' B') (hR _ _ _ (Soft.keep kq) (g y (List.mem_of_getElem? hy)))) D' (But.trans (But.ofK kq) B')⟩
  intro z
  obtain ⟨ws, cs, r, t, a, _⟩ := D
  rw [z, a.wl] at nq; cases nq
section
variable {P : Program} {w : World} {K : PySem.W.Frag} {mg : Str → Option Value} {base : Heap} {T : List Addr}
def spBad : Sp := fun vs H Q _ => ∃ (d wp cp a : Addr) (n : Nat) (hv : V) (h : Th) (ws : List Str), vs = [.ref d, hv, .ref a] ∧ IsTh H hv h ∧ HouseD h ∧ H a = some (.tup (ws.map V.str)) ∧ (∀ s ∈ ws, s ∈ Pr.namesOf h) ∧ ws.length ≤ 1000 ∧ Dr H d wp cp (n + 1) ∧
  ∀ y H', Bad (Pr.namesOf h) H' y → Dr H' d wp cp n → But d wp H H' → Q y H'
theorem ok_bad {f fc fp : Addr} {fd cd pd : FuncData} (F : Fun K "_law_bad_word" "_law_bad_word" sBad f fd) (mL : mg "list" = none)
    (Fc : FnOk P w K mg base CX0 1 fc cd ["house"] spCalls) (mc : mg "_law_calls" = some (.ref fc)) (kc : PySem.W.keepIn K (.ref fc) = true) (bc : Binds K cd ["house"] [])
    (Fp : FnOk P w K mg base CX0 3 fp pd ["draw", "some"] spPick) (mp : mg "_law_pick" = some (.ref fp)) (kp : PySem.W.keepIn K (.ref fp) = true) (bp : Binds K pd ["draw", "some"] []) : FnOk P w K mg base CX0 4 f fd ["draw", "house", "word"] spBad := by
  refine F.ok scBw (fun vs H Q E h => ?_) (fun cdv A outer s H vs Q E hr h => ?_)
  · obtain ⟨d, wp, cp, a, n, hv, h, ws, rfl, _⟩ := h
    rfl
  · obtain ⟨d, wp, cp, a, n, hv, h, ws, rfl, hh, Dh, ha, hws, hwl, D, k⟩ := h
    refine ⟨_, pss_cons (ps_set (i := 3) scBw.nd rfl (Or.inl rfl) (pe_ix ix_list (pe_call Fc (hr.mono (by decide)) (by rfl) mc kc bc .nil pass0 (pa_cons (pv 1) pa_nil)) pe_int (fun _ _ => rfl)))
      (pss_one (ps_ret (pe_call Fp hr (by rfl) mp kp bp .nil pass0 (pa_cons (pv 0) (pa_cons (pe_lst (pa_cons pe_non (pa_cons pe_int (pa_cons (pv 3) (pa_cons (pe_callTy call_list_of (by rfl) mL (by decide +kernel) (pa_cons (pv 2) pa_nil)) (pa_cons (pe_op op_catA (pv 2) (pe_tup (pa_cons pe_str pa_nil)))
        (pa_cons (pe_op op_catA (pv 2) (pe_tup (pa_cons pe_non pa_nil))) (pa_cons (pe_op op_catA (pv 2) (pe_tup (pa_cons (pe_tup (pa_cons (pv 3) pa_nil)) pa_nil))) (pa_cons pe_dnewK (pa_cons (pe_tup (pa_cons (pe_upper (pv 3)) pa_nil)) pa_nil)))))))))) pa_nil))))), ?_⟩
    have hns : ∀ x ∈ Pr.namesOf h, Nam x := Dh.nam
    have hwn : ∀ x ∈ ws, Nam x := fun x hx => hns x (hws x hx)
    obtain ⟨c0, r0, e0⟩ : ∃ c0 r0, Pr.namesOf h = c0 :: r0 := by
      have h1 := Dh.one
      have h2 : (Pr.namesOf h).length = (items (Hs.nth 1 h)).length := by unfold Pr.namesOf strsOf; simp
      cases e : Pr.namesOf h with
      | nil => rw [e] at h2; simp at h2; omega
      | cons c r => exact ⟨c, r, rfl⟩
    have hc0 : Nam c0 := hns c0 (by rw [e0]; exact List.mem_cons_self)
    have hup := up_not hc0 hns
    refine ⟨_, rfl, hv, h, rfl, hh, Dh.ok, fun p G kG np hp => ?_⟩
    have k0 : Kp H G := kG
    refine ⟨p, _, _, .str c0, rfl, rfl, SqL.of hp, by rw [e0]; exact at0, ?_⟩
    have hwl2 : (ws.map V.str).length ≤ 1000 := by simpa using hwl
    refine ⟨_, rfl, _, rfl, _, rfl, a, _, rfl, .inr (SqT.of (k0 _ _ ha)), fun q1 m1 => ?_⟩
    have k1 : Kp G (upd G q1 (.lst (ws.map V.str))) := Kp.refl.new m1
    have h1 : (upd G q1 (.lst (ws.map V.str))) q1 = some (.lst (ws.map V.str)) := upd_same
    generalize upd G q1 (.lst (ws.map V.str)) = G1 at k1 h1 ⊢
    have c1 := k0.trans k1
    refine ⟨_, rfl, show 1 ≤ sizeLine by decide, fun q2 m2 => ?_⟩
    have k2 : Kp G1 (upd G1 q2 (.tup [.str "zzzzzzzz"])) := Kp.refl.new m2
    have h2 : (upd G1 q2 (.tup [.str "zzzzzzzz"])) q2 = some (.tup [.str "zzzzzzzz"]) := upd_same
    generalize upd G1 q2 (.tup [.str "zzzzzzzz"]) = G2 at k2 h2 ⊢
    have c2 := c1.trans k2
    refine cat_go (c2 _ _ ha) h2 (by rw [sizeLine_eq]; simp only [List.length_cons, List.length_nil]; omega) (fun q3 G3 k3 h3 => ?_)
    have c3 := c2.trans k3
    refine ⟨_, rfl, show 1 ≤ sizeLine by decide, fun q4 m4 => ?_⟩
    have k4 : Kp G3 (upd G3 q4 (.tup [.non])) := Kp.refl.new m4
    have h4 : (upd G3 q4 (.tup [.non])) q4 = some (.tup [.non]) := upd_same
    generalize upd G3 q4 (.tup [.non]) = G4 at k4 h4 ⊢
    have c4 := c3.trans k4
    refine cat_go (c4 _ _ ha) h4 (by rw [sizeLine_eq]; simp only [List.length_cons, List.length_nil]; omega) (fun q5 G5 k5 h5 => ?_)
    have c5 := c4.trans k5
    refine ⟨_, rfl, _, rfl, show 1 ≤ sizeLine by decide, fun q6 m6 => ?_⟩
    have k6 : Kp G5 (upd G5 q6 (.tup [.str c0])) := Kp.refl.new m6
    have h6 : (upd G5 q6 (.tup [.str c0])) q6 = some (.tup [.str c0]) := upd_same
    generalize upd G5 q6 (.tup [.str c0]) = G6 at k6 h6 ⊢
    have c6 := c5.trans k6
    refine ⟨show 1 ≤ sizeLine by decide, fun q7 m7 => ?_⟩
    have k7 : Kp G6 (upd G6 q7 (.tup [.ref q6])) := Kp.refl.new m7
    have h7 : (upd G6 q7 (.tup [.ref q6])) q7 = some (.tup [.ref q6]) := upd_same
    generalize upd G6 q7 (.tup [.ref q6]) = G7 at k7 h7 ⊢
    have c7 := c6.trans k7
    refine cat_go (c7 _ _ ha) h7 (by rw [sizeLine_eq]; simp only [List.length_cons, List.length_nil]; omega) (fun q8 G8 k8 h8 => ?_)
    have c8 := c7.trans k8
    refine fun q9 m9 => ?_
    have k9 : Kp G8 (upd G8 q9 (.dK [])) := Kp.refl.new m9
    have h9 : (upd G8 q9 (.dK [])) q9 = some (.dK []) := upd_same
    generalize upd G8 q9 (.dK []) = G9 at k9 h9 ⊢
    have c9 := c8.trans k9
    refine ⟨_, rfl, ⟨_, rfl⟩, c0, rfl, rfl, ?_, show 1 ≤ sizeLine by decide, fun p1 n1 => ?_⟩
    · have := hc0.sh
      have e : c0.length = c0.cps.toList.length := by simp [Str.length]
      omega
    have kt : Kp G9 (upd G9 p1 (.tup [.str (Txt.upper c0)])) := Kp.refl.new n1
    have ht : (upd G9 p1 (.tup [.str (Txt.upper c0)])) p1 = some (.tup [.str (Txt.upper c0)]) := upd_same
    generalize upd G9 p1 (.tup [.str (Txt.upper c0)]) = Gt at kt ht ⊢
    have ct := c9.trans kt
    refine ⟨show 9 ≤ sizeLine by decide, fun L nL => ?_⟩
    unfold tNil
    dsimp only
    refine pick_newR (R := Bad (Pr.namesOf h)) (fun _ _ _ a b => b.soft a) (dr_same ct D) nL (by simp) (by simp) ?_ fun y G' a b c => k y G' a b (But.trans (But.ofK ct) c)
    intro y hy
    simp only [List.mem_cons, List.not_mem_nil, or_false] at hy
    have k8t := k9.trans kt
    have k5t := ((k6.trans k7).trans k8).trans k8t
    have k3t := (k4.trans k5).trans k5t
    rcases hy with rfl | rfl | rfl | rfl | rfl | rfl | rfl | rfl | rfl
    · exact ⟨_, .non, rfl⟩
    · exact ⟨_, .int 5, rfl⟩
    · exact ⟨_, isTh_str hc0, rfl⟩
    · exact ⟨_, .lst q1 _ (((k2.trans k3).trans k3t) _ _ h1), rfl⟩
    · refine bad_snoc (k3t _ _ h3) hwn hwl (isTh_word (x := "zzzzzzzz") (by decide +kernel)) (among_not fun hm => ?_)
      have := (hns _ hm).sh
      exact absurd this (by decide +kernel)
    · exact bad_snoc (k5t _ _ h5) hwn hwl .non rfl
    · exact bad_snoc (k8t _ _ h8) hwn hwl (Eth.th (.one (isTh_str hc0)) (((k7.trans k8).trans k8t) _ _ h6) (by simp)) rfl
    · exact ⟨_, .dic q9 _ (kt _ _ h9), rfl⟩
    · exact bad_snoc (ws := []) ht (fun s hs => by simp at hs) (by simp) (isTh_word (x := Txt.upper c0) ⟨by omega, hup.2.2⟩) (among_not hup.1)
end
end Bw

set_option Elab.async false
set_option linter.all false
set_option maxRecDepth 100000
set_option maxHeartbeats 4000000
/-! comparing histories; tables and draws at once; long programs: their mathematics. -/
namespace Lg
open PySem PySem.Spec PyProof.Rows L2 Sx Rp Dw NdefX GxR Rw Th Kd Gx Nm Hs Pr Ps RZ Lw Lh Lp Lq Ez En An Ah La Lb Li Ln Lo Lr Sb Pa Pp Lz Oa Od Be Bw
/-! ### histories and answers as data -/
theorem dp_seq {K : PySem.W.Frag} {H : Hp} : ∀ {xs : List V} {ds : List PyData}, xs.length = ds.length → (∀ (i : Nat) (v : V) (d : PyData), xs[i]? = some v → ds[i]? = some d → Dp K H v d) → DpAll K H xs ds
  | [], [], _, _ => .nil
  | [], _ :: _, l, _ => by simp at l
  | _ :: _, [], l, _ => by simp at l
  | x :: xs, d :: ds, l, e => .cons (e 0 x d rfl rfl) (dp_seq (by simpa using l) fun i v d a b => e (i + 1) v d a b)
theorem all_shapedT {l : List PyData} (h : ∀ d ∈ l, d.canLay0 = true ∧ d.depth ≤ 2) : SeqAt.shaped (.tuple l) = true := by
  have q := all_shaped h
  refine Bool.and_eq_true_iff.mpr ⟨?_, ?_⟩
  · have := (Bool.and_eq_true_iff.mp q).1
    simpa [PyData.canLay0] using this
  · have := of_decide_eq_true (Bool.and_eq_true_iff.mp q).2
    refine decide_eq_true ?_
    simpa [PyData.depth] using this
theorem nam_lay {s : Str} (h : Nam s) : (PyData.str s).canLay0 = true := by
  obtain ⟨z, rfl, hz, _⟩ := h.pl
  show PyData.strOk _ = true
  exact str_ok hz
def hisD (ws : List Str) (es : List (Str × Nat)) : List PyData := (ws.zip es).map fun p => .tuple [.str p.1, .str p.2.1]
def ansD (es : List (Str × Nat)) : List PyData := es.map fun e => .str e.1
theorem his_shaped {ws : List Str} {es : List (Str × Nat)} (hw : ∀ s ∈ ws, Nam s) (he : ∀ e ∈ es, Nam e.1) : SeqAt.shaped (.tuple (hisD ws es)) = true := all_shapedT fun d hd => by
  obtain ⟨p, hp, rfl⟩ := List.mem_map.mp hd
  have h1 := nam_lay (hw _ (List.of_mem_zip hp).1)
  have h2 := nam_lay (he _ (List.of_mem_zip hp).2)
  exact ⟨by simp [PyData.canLay0, PyData.canLayAll0] at h1 h2 ⊢; exact ⟨h1, h2⟩, by simp [PyData.depth, PyData.depthAll]⟩
theorem ans_shaped {es : List (Str × Nat)} (he : ∀ e ∈ es, Nam e.1) : SeqAt.shaped (.tuple (ansD es)) = true := all_shapedT fun d hd => by
  obtain ⟨p, hp, rfl⟩ := List.mem_map.mp hd
  exact ⟨nam_lay (he _ hp), by simp [PyData.depth]⟩
theorem dp_his {K : PySem.W.Frag} {H : Hp} {v : V} {ws : List Str} {es : List (Str × Nat)} (h : IsTh H v (hisTh ws es)) : Dp K H v (.tuple (hisD ws es)) := by
  obtain ⟨a, xs, rfl, ha, ee, _⟩ := th_tup h
  refine .tup (SqT.of ha) (dp_seq (by rw [ee.1]; unfold hisD; simp) fun i v d h1 h2 => ?_)
  unfold hisD at h2
  rw [List.getElem?_map] at h2
  obtain ⟨p, hp, rfl⟩ := Option.map_eq_some_iff.mp h2
  have h3 := ee.2 i v (.tup [sT p.1, sT p.2.1]) h1 (by rw [List.getElem?_map, hp]; rfl)
  obtain ⟨b, ys, rfl, hb, e2, _⟩ := th_tup h3
  match ys, e2.1 with
  | [y0, y1], _ =>
    have q0 := isTh_sT (e2.2 0 y0 _ rfl rfl)
    have q1 := isTh_sT (e2.2 1 y1 _ rfl rfl)
    subst q0; subst q1
    exact .tup (SqT.of hb) (.cons (.str _) (.cons (.str _) .nil))
theorem dp_ans {K : PySem.W.Frag} {H : Hp} {v : V} {es : List (Str × Nat)} (h : IsTh H v (ansTh es)) : Dp K H v (.tuple (ansD es)) := by
  obtain ⟨a, xs, rfl, ha, ee, _⟩ := th_tup h
  refine .tup (SqT.of ha) (dp_seq (by rw [ee.1]; unfold ansD; simp) fun i v d h1 h2 => ?_)
  unfold ansD at h2
  rw [List.getElem?_map] at h2
  obtain ⟨p, hp, rfl⟩ := Option.map_eq_some_iff.mp h2
  have h3 := isTh_sT (ee.2 i v (sT p.1) h1 (by rw [List.getElem?_map, hp]; rfl))
  subst h3
  exact .str _
theorem sh_eq {d : PyData} (h : SeqAt.shaped d = true) : PyData.eqv d d = true := by
  have h2 := (Bool.and_eq_true_iff.mp h).1
  exact PySem.SeqAt.eqv_refl d h2
/-! ### tables and draws at once -/
theorem tabs_but {T : List Addr} {H H' : Hp} {d wp cp : Addr} {n : Nat} (t : Tabs T H) (D : Dr H d wp cp n) (B : But d wp H H') : Tabs T H' := fun b hb => by
  obtain ⟨ps, e, q⟩ := t b hb
  obtain ⟨ws, cs, r, tt, a, _⟩ := D
  exact ⟨ps, B _ _ e (fun y => by rw [y, a.dc] at e; cases e) (fun y => by rw [y, a.wl] at e; cases e), q⟩
theorem dr_go {T : List Addr} {H H' : Hp} {d wp cp : Addr} {n : Nat} (t : Tabs T H) (g : Go T H H') (D : Dr H d wp cp n) : Dr H' d wp cp n := by
  obtain ⟨ws, cs, r, tt, h, b⟩ := D
  exact ⟨ws, cs, r, tt, ⟨t.at g.fr h.dc (fun ps y => by cases y), t.at g.fr h.wl (fun ps y => by cases y), t.at g.fr h.cl (fun ps y => by cases y), h.cb, h.cn, h.wn, h.t0, h.nwc⟩, b⟩
theorem go_kp {T : List Addr} {H H' : Hp} (t : Tabs T H) (k : Kp H H') : Go T H H' := ⟨fun b o _ e => k b o e, t.keep k⟩
theorem go_soft {T : List Addr} {H H' : Hp} (t : Tabs T H) (g : Go T H H') : Soft H H' := ⟨fun b xs e => t.at g.fr e (fun ps y => by cases y), fun b xs e => ⟨xs, t.at g.fr e (fun ps y => by cases y)⟩, fun b xs e => ⟨xs, t.at g.fr e (fun ps y => by cases y)⟩⟩
/-! ### the long program -/
def rowOf (h : Th) (M i : Nat) : List (Str × Nat) := (ansOf h).map fun ns => (ns.getD (i / 3 % ns.length) Str.empty, (i + 1) % M)
def rowsOf (h : Th) (M : Nat) : List (List (Str × Nat)) := (List.range M).map (rowOf h M)
theorem rows_get {h : Th} {M i : Nat} (hi : i < M) : (rowsOf h M)[i]? = some (rowOf h M i) := by
  unfold rowsOf
  rw [List.getElem?_map, List.getElem?_range hi]; rfl
theorem rows_len (h : Th) (M : Nat) : (rowsOf h M).length = M := by unfold rowsOf; simp
theorem long_prog {h : Th} {M : Nat} (D : HouseD h) (hM : 1 ≤ M) : ProgD h (rowsOf h M) := by
  refine ⟨D, by rw [rows_len]; exact hM, fun r hr => ?_⟩
  obtain ⟨i, _, rfl⟩ := List.mem_map.mp hr
  refine ⟨by unfold rowOf; simp, fun j e ns h1 h2 => ?_⟩
  unfold rowOf at h1
  rw [List.getElem?_map, h2] at h1
  cases h1
  obtain ⟨q1, q2, q3⟩ := D.ans ns (List.mem_of_getElem? h2)
  refine ⟨?_, by rw [rows_len]; exact Nat.mod_lt _ (by omega)⟩
  have hlt : i / 3 % ns.length < ns.length := Nat.mod_lt _ (by omega)
  show ns.getD (i / 3 % ns.length) Str.empty ∈ ns
  rw [List.getD_eq_getElem?_getD, List.getElem?_eq_getElem hlt]
  exact List.getElem_mem hlt
theorem long_nxt {h : Th} {M st : Nat} {c : Str} (D : HouseD h) (hs : st < M) (hc : c ∈ Pr.namesOf h) : (nxt (Pr.namesOf h) (rowsOf h M) st c).2 = (st + 1) % M := by
  unfold nxt
  rw [rows_get hs]
  have hi := List.idxOf_lt_length_iff.mpr hc
  have l1 : (Pr.namesOf h).length = (ansOf h).length := by unfold Pr.namesOf strsOf ansOf; simp
  have hr : (rowOf h M st)[(Pr.namesOf h).idxOf c]? = some ((ansOf h)[(Pr.namesOf h).idxOf c]'(by omega) |>.getD (st / 3 % ((ansOf h)[(Pr.namesOf h).idxOf c]'(by omega)).length) Str.empty, (st + 1) % M) := by
    unfold rowOf
    rw [List.getElem?_map, List.getElem?_eq_getElem (by omega)]; rfl
  show (((rowOf h M st)[(Pr.namesOf h).idxOf c]?).getD (Str.empty, 0)).2 = _
  rw [hr]; rfl
theorem long_st {h : Th} {M : Nat} (D : HouseD h) (hM : 1 ≤ M) : ∀ (ws : List Str) (st : Nat), st < M → (∀ s ∈ ws, s ∈ Pr.namesOf h) → stAt (Pr.namesOf h) (rowsOf h M) st ws = (st + ws.length) % M
  | [], st, hs, _ => by show st = _; rw [List.length_nil, Nat.add_zero, Nat.mod_eq_of_lt hs]
  | c :: cs, st, hs, hw => by
    have e := long_nxt (M := M) D hs (hw c List.mem_cons_self)
    show stAt (Pr.namesOf h) (rowsOf h M) (nxt (Pr.namesOf h) (rowsOf h M) st c).2 cs = _
    rw [e, long_st D hM cs _ (Nat.mod_lt _ (by omega)) fun s hs => hw s (List.mem_cons_of_mem _ hs), Nat.mod_add_mod, List.length_cons]
    congr 1
    omega
end Lg

set_option Elab.async false
set_option linter.all false
set_option maxRecDepth 100000
set_option maxHeartbeats 4000000
/-! the law's own: long_right. -/
namespace Ll
open PySem PySem.Spec PyProof.Rows L2 Sx Rp Dw NdefX GxR Rw Th Kd Gx Nm Hs Pr Ps RZ Lw Lh Lp Lq Ez En An Ah La Lb Li Ln Lo Lr Sb Pa Pp Lz Oa Od Be Bw Lg
abbrev sLong : Stmt := topS 57
theorem scLg : FnScope ["draw", "house", "many", "rows", "program", "word", "state", "told", "k"] ["draw"] (defScope sLong) := ⟨rfl, rfl, rfl, by decide +kernel, rfl, by decide +kernel, by decide +kernel⟩
def scRowsL : Scope := match (defBody sLong).getD 1 (.Pass ⟨0, 0, 0, 0⟩) with | .Assign _ (.ListComp _ _ sc _) _ => sc | _ => defScope sLong
def rFd : R2 := fun x y H Q => ∃ n m : Nat, x = .int (n : Int) ∧ y = .int (m : Int) ∧ (1 ≤ m ∧ m < 1073741824) ∧ Q (.int ((n / m : Nat) : Int)) H
def rMd : R2 := rI (fun _ j => 0 < j) fun i j => .int (i % j)
def rPl : R2 := rI0 fun i j => .int (i + j)
def rLenS (K : PySem.W.Frag) : List V → Hp → VK → Prop := fun xs H Q => ∃ p ys, xs = [.ref p] ∧ (SqL K H p ys ∨ SqT K H p ys) ∧ Q (.int ys.length) H
def tEntL (K : PySem.W.Frag) : TE := tTup (tCons (tOp (rIxT K) (tOp (rIxT K) (tVar 7) (tC (.int 2))) (tOp rMd (tOp rFd (tVar 6) (tC (.int 3))) (tCB (rLenS K) (tCons (tOp (rIxT K) (tVar 7) (tC (.int 2))) tNil)))) (tCons (tOp rMd (tOp rPl (tVar 6) (tC (.int 1))) (tVar 2)) tNil))
def tRowL (K : PySem.W.Frag) : TE := tCB (rTupOf K) (tCons (tLc (iTup K (tOp (rIxT K) (tVar 1) (tC (.int 1)))) (gName 7) tYes (tEntL K) [7]) tNil)
section
variable {P : Program} {w : World} {K : PySem.W.Frag} {mg : Str → Option Value} {base : Heap} {T : List Addr}
def spLong (T : List Addr) : Sp := fun vs H Q _ => ∃ (d wp cp : Addr) (n : Nat), vs = [.ref d] ∧ Tabs T H ∧ Dr H d wp cp (n + 400) ∧ ∀ H', Tabs T H' → Dr H' d wp cp n → (∀ b o, b ≠ d → b ≠ wp → b ∉ T → H b = some o → H' b = some o) → Q (.bl true) H'
theorem ok_long {f fh ft fp fc ga gh gs gp CP CW : Addr} {fd hd td pd cd ad hd2 sd pd2 : FuncData} (F : Fun K "_law_long_right" "_law_long_right" sLong f fd) (mr : mg "range" = none) (mtu : mg "tuple" = none) (ml : mg "len" = none) {kk : Nat} (hkk : 6 ≤ kk)
    (Fh : FnOk P w K mg base CX0 5 fh hd ["draw"] spHouseD) (mh : mg "_law_house" = some (.ref fh)) (kh : PySem.W.keepIn K (.ref fh) = true) (bh : Binds K hd ["draw"] [])
    (Ft : FnOk P w K mg base CX0 2 ft td ["draw", "many"] spTake) (mt : mg "_law_take" = some (.ref ft)) (kt : PySem.W.keepIn K (.ref ft) = true) (bt : Binds K td ["draw", "many"] [])
    (Fp : FnOk P w K mg base CX0 3 fp pd ["draw", "some"] spPick) (mp : mg "_law_pick" = some (.ref fp)) (kp : PySem.W.keepIn K (.ref fp) = true) (bp : Binds K pd ["draw", "some"] [])
    (Fc : FnOk P w K mg base CX0 1 fc cd ["house"] spCalls) (mc : mg "_law_calls" = some (.ref fc)) (kc : PySem.W.keepIn K (.ref fc) = true) (bc : Binds K cd ["house"] [])
    (Ga : FnOk P w K mg base CX0 2 ga ad ["program", "word"] spAnsd) (ma : mg "_law_answered" = some (.ref ga)) (ka : PySem.W.keepIn K (.ref ga) = true) (ba : Binds K ad ["program", "word"] [])
    (Gh : FnOk P w K mg base (L2.CX P w) kk gh hd2 ["program", "word"] (spHis T CP CW)) (mgh : mg "history" = some (.ref gh)) (kgh : PySem.W.keepIn K (.ref gh) = true) (bgh : Binds K hd2 ["program", "word"] [])
    (Gs : FnOk P w K mg base (L2.CX P w) kk gs sd ["program", "word"] (spSb T CP CW)) (mgs : mg "state_behind" = some (.ref gs)) (kgs : PySem.W.keepIn K (.ref gs) = true) (bgs : Binds K sd ["program", "word"] [])
    (Gp : FnOk P w K mg base CX0 kk gp pd2 ["thing"] (spProg T)) (mgp : mg "is_program" = some (.ref gp)) (kgp : PySem.W.keepIn K (.ref gp) = true) (bgp : Binds K pd2 ["thing"] []) : FnOk P w K mg base CX0 (kk + 1) f fd ["draw"] (spLong T) := by
  refine F.ok scLg (fun vs H Q E h => ?_) (fun cdv A outer s H vs Q E hr h => ?_)
  · obtain ⟨d, wp, cp, n, rfl, _⟩ := h
    rfl
  · obtain ⟨d, wp, cp, n, rfl, tb, D, k⟩ := h
    refine ⟨_, pss_cons (ps_asg (pe_tup (pa_cons (pe_call Fh (hr.mono (by omega)) (by rfl) mh kh bh .nil pass0 (pa_cons (pv 0) pa_nil)) (pa_cons (pe_op op_add pe_int (pe_call Ft (hr.mono (by omega)) (by rfl) mt kt bt .nil pass0 (pa_cons (pv 0) (pa_cons pe_int pa_nil)))) pa_nil))) (pg_tup rfl (pgs_cons (pg_name (i := 1) scLg.nd rfl (Or.inr rfl)) (pgs_cons (pg_name (i := 2) scLg.nd rfl (Or.inr rfl)) pgs_nil))))
      (pss_cons (ps_setLc (i := 3) (own := [("state", 6)]) (g := gName 6) (tt := tYes) (te := tRowL K) (by rfl) scLg.nd rfl rfl (sw_true rfl rfl rfl (by decide +kernel)) (pi_range1 (by rfl) mr (pa_cons (pv 2) pa_nil)) (blkOk_by (own := [("state", 6)]) (N := ["draw", "house", "many", "rows", "program", "word", "state", "told", "k"]) (sc := defScope sLong) (by decide +kernel))
        (fun _ _ _ _ _ => pg_name (i := 6) scLg.nd rfl (Or.inr rfl)) (fun _ _ _ _ _ => pts_nil)
        (fun _ _ _ _ _ => pe_callTy call_tuple_of (by rfl) mtu (by decide +kernel) (pa_cons (pe_lc (own := [("told", 7)]) (g := gName 7) (tt := tYes) (te := tEntL K) (by rfl) scLg.nd (pi_tup (pe_ix ix_tup (pv 1) pe_int (fun _ _ => rfl))) (blkOk_by (own := [("told", 7)]) (N := ["draw", "house", "many", "rows", "program", "word", "state", "told", "k"]) (sc := relS scRowsL (defScope sLong)) (by decide +kernel))
          (fun _ _ _ _ _ => pg_name (i := 7) scLg.nd rfl (Or.inl rfl)) (fun _ _ _ _ _ => pts_nil)
          (fun _ _ _ _ _ => pe_tup (pa_cons (pe_ix ix_tup (pe_ix ix_tup (pv 7) pe_int (fun _ _ => rfl)) (pe_op op_mod (pe_op op_fdivNN (pv 6) pe_int) (pe_callB call_len_seq (by rfl) ml PySem.boot_len (pa_cons (pe_ix ix_tup (pv 7) pe_int (fun _ _ => rfl)) pa_nil))) (fun _ _ => rfl)) (pa_cons (pe_op op_mod (pe_op op_add (pv 6) pe_int) (pv 2)) pa_nil)))) pa_nil)))
      (pss_cons (ps_par (by rfl) scLg.nd (i := 4) (j := 5) rfl rfl (by decide) rfl rfl (pa_cons (pe_tup (pa_cons pe_str (pa_cons (pv 1) (pa_cons (pe_callTy call_tuple_of (by rfl) mtu (by decide +kernel) (pa_cons (pv 3) pa_nil)) pa_nil))))
        (pa_cons (pe_callTy call_tuple_of (by rfl) mtu (by decide +kernel) (pa_cons (pe_lc (own := [("k", 8)]) (g := gName 8) (tt := tYes) (te := tCall spPick [] E0 (tCons (tVar 0) (tCons (tCall spCalls [] E0 (tCons (tVar 1) tNil)) tNil))) (by rfl) scLg.nd (pi_range1 (by rfl) mr (pa_cons pe_int pa_nil)) (blkOk_by (own := [("k", 8)]) (N := ["draw", "house", "many", "rows", "program", "word", "state", "told", "k"]) (sc := defScope sLong) (by decide +kernel))
          (fun _ _ _ _ _ => pg_name (i := 8) scLg.nd rfl (Or.inl rfl)) (fun _ _ _ _ _ => pts_nil) (fun _ _ _ _ _ => pe_call Fp (hr.mono (by omega)) (by rfl) mp kp bp .nil pass0 (pa_cons (pv 0) (pa_cons (pe_call Fc (hr.mono (by omega)) (by rfl) mc kc bc .nil pass0 (pa_cons (pv 1) pa_nil)) pa_nil)))) pa_nil)) pa_nil)) (by rfl))
      (pss_cons (ps_if (PW.pt (pw_or (pt_cmpR op_ne (pe_call Gs hr (by rfl) mgs kgs bgs .nil passL (pa_cons (pv 4) (pa_cons (pv 5) pa_nil))) (pe_op op_mod pe_int (pv 2)) (nomark _)) (pw_or1 (pt_cmpR op_notBl (pe_call Gp hr (by rfl) mgp kgp bgp .nil pass0 (pa_cons (pv 4) pa_nil)) pe_bl (by rfl))))) (pss_one (ps_ret pe_bl)) pss_nil)
      (pss_one (ps_ret (pe_cmpR (op_eqD hr.units) (pe_call Gh hr (by rfl) mgh kgh bgh .nil passL (pa_cons (pv 4) (pa_cons (pv 5) pa_nil))) (pe_call Ga (hr.mono (by omega)) (by rfl) ma ka ba .nil pass0 (pa_cons (pv 4) (pa_cons (pv 5) pa_nil))) (nomark _))))))), ?_⟩
    refine ⟨_, rfl, d, wp, cp, n + 300, rfl, D, fun hp0 h G1 hh HD D1 B1 => ?_⟩
    refine ⟨_, rfl, d, wp, cp, n + 299, 301, rfl, D1, by decide, by decide, fun v G2 v0 v1 D2 B2 => ⟨_, _, rfl, rfl, ?_⟩⟩
    obtain ⟨j, rfl⟩ := Int.eq_ofNat_of_zero_le v0
    have eM : (100 : Int) + (j : Int) = ((100 + j : Nat) : Int) := by omega
    have tb2 := tabs_but (tabs_but tb D B1) D1 B2
    have hG2 := (soft_but D1 D2 B2).th hh
    unfold tNil
    dsimp only
    rw [eM]
    have hM0 : 1 ≤ 100 + j := by omega
    have hM1 : 100 + j ≤ 400 := by omega
    generalize 100 + j = M at hM0 hM1 ⊢
    refine ⟨show 2 ≤ sizeLine by decide, fun p np => ⟨p, _, rfl, SqT.of upd_same, rfl, _, _, rfl, _, _, rfl, rfl, ?_⟩⟩
    have k23 : Kp G2 (upd G2 p (.tup [.ref hp0, .int ((M : Nat) : Int)])) := Kp.refl.new np
    generalize upd G2 p (.tup [.ref hp0, .int ((M : Nat) : Int)]) = G3 at k23 ⊢
    have tb3 := tb2.keep k23
    have hG3 := k23.th hG2
    have D3 := dr_same k23 D2
    have hP := house_p HD.ok
    refine ⟨_, rfl, (M : Int), rfl, by omega, by omega, fun L nL => ?_⟩
    refine lc_range (lo := 0) (n := M) (fun i G => ∃ vs : List V, G L = some (.lst vs) ∧ vs.length = i ∧ (∀ (j : Nat) (v : V), vs[j]? = some v → IsTh G v (rowTh (rowOf h M j))) ∧ Kp G3 G) ⟨[], upd_same, rfl, fun j v h => by simp at h, Kp.refl.new nL⟩ (fun i G hi hx => ?_) (fun G hx => ?_)
    · obtain ⟨vs, hL, lv, hth, kG⟩ := hx
      obtain ⟨a, xs, x, e0, ha, hx1, hc1⟩ := part1 (n := 2) (kG.th hG3) hP.told (by decide)
      cases e0
      have e1 := hP.tup
      have e2 := hP.calls
      have e4 := hP.len
      cases et : Hs.nth 1 h with
      | tup cs =>
        rw [et] at hc1 e1 e2 e4
        have e4' : cs.length ≤ 5 := e4
        have ea : ansOf h = cs.map fun c => strsOf (items (Hs.nth 2 c)) := by unfold ansOf; rw [et]; rfl
        cases hc1 with
        | tup b ys _ hb lb _ ey =>
          refine ⟨rfl, _, rfl, _, xs, _, _, rfl, rfl, SqT.of ha, hx1, b, rfl, ⟨ys, SqT.of hb⟩, fun L2 nL2 => ?_⟩
          have LL2 : L ≠ L2 := fun y => by rw [y, nL2] at hL; cases hL
          refine lc_tup (K := K) (a := b) (xs := ys) (fun i2 G4 => ∃ vs2 : List V, G4 L2 = some (.lst vs2) ∧ vs2.length = i2 ∧ (∀ (j : Nat) (v : V) (e : Str × Nat), vs2[j]? = some v → (rowOf h M i)[j]? = some e → IsTh G4 v (enT e)) ∧ Kp G G4)
            ⟨[], upd_same, rfl, fun j v e h => by simp at h, Kp.refl.new nL2⟩ (fun i2 G4 _ h2 => ?_) (fun i2 x2 G4 hx2 h2 => ?_) (fun G4 h2 => ?_)
          · obtain ⟨_, _, _, _, k4⟩ := h2
            exact SqT.of (k4 _ _ hb)
          · obtain ⟨vs2, hL2, lv2, hth2, k4⟩ := h2
            have hi2 : i2 < cs.length := by rw [← lb]; exact (List.getElem?_eq_some_iff.mp hx2).1
            obtain ⟨c', hc⟩ : ∃ c', cs[i2]? = some c' := ⟨cs[i2], List.getElem?_eq_getElem hi2⟩
            have hcth := k4.th (ey i2 x2 c' hx2 hc)
            have hcall := List.all_eq_true.mp e2 c' (List.mem_of_getElem? hc)
            unfold callT at hcall
            simp only [Bool.and_eq_true] at hcall
            obtain ⟨a2, xs2, x3, rfl, ha2, hx3, h3⟩ := part2 (n := 3) hcth hcall.1 (by decide)
            cases e8 : Hs.nth 2 c' with
            | tup us =>
              rw [e8] at h3 hcall
              obtain ⟨an, rfl⟩ : ∃ an, x3 = V.ref an := by cases h3; exact ⟨_, rfl⟩
              have han := names_at h3 (names_all hcall.2.2)
              have hns : (ansOf h)[i2]? = some (strsOf us) := by rw [ea, List.getElem?_map, hc]; show some (strsOf (items (Hs.nth 2 c'))) = _; rw [e8]; rfl
              obtain ⟨q1, q2, q3⟩ := HD.ans _ (List.mem_of_getElem? hns)
              have hlt : i / 3 % (strsOf us).length < (strsOf us).length := Nat.mod_lt _ (by omega)
              have hs0 : (strsOf us)[i / 3 % (strsOf us).length]? = some ((strsOf us).getD (i / 3 % (strsOf us).length) Str.empty) := by
                rw [List.getD_eq_getElem?_getD, List.getElem?_eq_getElem hlt]; rfl
              have hrow : (rowOf h M i)[i2]? = some ((strsOf us).getD (i / 3 % (strsOf us).length) Str.empty, (i + 1) % M) := by
                unfold rowOf
                rw [List.getElem?_map, hns]; rfl
              generalize (strsOf us).getD (i / 3 % (strsOf us).length) Str.empty = s0 at hs0 hrow
              have sN : Nam s0 := q3 s0 (List.mem_of_getElem? hs0)
              have eI : ((i / 3 : Nat) : Int) % (((strsOf us).map V.str).length : Int) = ((i / 3 % (strsOf us).length : Nat) : Int) := by rw [List.length_map]; norm_cast
              have eN : ((0 : Int) + (i : Int) + 1) % (M : Int) = (((i + 1) % M : Nat) : Int) := by rw [Int.zero_add]; norm_cast
              refine ⟨rfl, _, rfl, a2, xs2, _, _, rfl, rfl, SqT.of ha2, hx3, _, rfl, i, 3, by rw [Int.zero_add], rfl, ⟨by decide, by decide⟩, _, rfl, a2, xs2, _, _, rfl, rfl, SqT.of ha2, hx3, an, _, rfl, .inr (SqT.of han), _, _, rfl, rfl, by rw [List.length_map]; omega, an, _, _, .str s0, rfl, rfl, SqT.of han, ?_, _, rfl, _, _, rfl, rfl, _, rfl, _, _, rfl, rfl, by omega, ?_⟩
              · rw [eI]
                exact atI_nat (by rw [List.getElem?_map, hs0]; rfl)
              unfold tNil
              dsimp only
              rw [eN]
              refine ⟨show 2 ≤ sizeLine by decide, fun t nt => ?_⟩
              have k5 : Kp G4 (upd G4 t (.tup [.str s0, .int (((i + 1) % M : Nat) : Int)])) := Kp.refl.new nt
              have h5 : (upd G4 t (.tup [.str s0, .int (((i + 1) % M : Nat) : Int)])) t = some (.tup [.str s0, .int (((i + 1) % M : Nat) : Int)]) := upd_same
              generalize upd G4 t (.tup [.str s0, .int (((i + 1) % M : Nat) : Int)]) = G5 at k5 h5 ⊢
              have hL5 := k5 _ _ hL2
              refine ⟨vs2, hL5, by rw [lv2, sizeLine_eq]; omega, vs2 ++ [.ref t], upd_same, by rw [List.length_append, lv2]; rfl, fun j' v e h8 h9 => ?_, (k4.trans k5).put nL2⟩
              have s7 : Soft G5 (upd G5 L2 (.lst (vs2 ++ [.ref t]))) := Soft.list hL5
              by_cases hlt2 : j' < vs2.length
              · rw [List.getElem?_append_left hlt2] at h8
                exact s7.th (k5.th (hth2 j' v e h8 h9))
              · have hj' := (List.getElem?_eq_some_iff.mp h8).1
                rw [List.length_append, List.length_singleton] at hj'
                have : j' = i2 := by omega
                subst this
                rw [List.getElem?_append_right (by omega), lv2, Nat.sub_self] at h8
                cases h8
                rw [hrow] at h9
                cases h9
                exact s7.th (Eth.th (.cons (isTh_str sN) (.one (.int _))) h5 (by simp))
            | _ => rw [e8] at hcall; cases hcall.2.2
          · obtain ⟨vs2, hL2, lv2, hth2, k4⟩ := h2
            refine ⟨L2, _, rfl, .inl ⟨SqL.of hL2, fun tt ntt => ?_⟩⟩
            have k5 : Kp G4 (upd G4 tt (.tup vs2)) := Kp.refl.new ntt
            have h5 : (upd G4 tt (.tup vs2)) tt = some (.tup vs2) := upd_same
            generalize upd G4 tt (.tup vs2) = G5 at k5 h5 ⊢
            have k05 := k4.trans k5
            have hL5 := k05 _ _ hL
            have s7 : Soft G5 (upd G5 L (.lst (vs ++ [.ref tt]))) := Soft.list hL5
            refine ⟨vs, hL5, by rw [lv, sizeLine_eq]; omega, vs ++ [.ref tt], upd_same, by rw [List.length_append, lv]; rfl, fun j' v h8 => ?_, (kG.trans k05).put nL⟩
            by_cases hlt2 : j' < vs.length
            · rw [List.getElem?_append_left hlt2] at h8
              exact s7.th (k05.th (hth j' v h8))
            · have hj' := (List.getElem?_eq_some_iff.mp h8).1
              rw [List.length_append, List.length_singleton] at hj'
              have : j' = i := by omega
              subst this
              rw [List.getElem?_append_right (by omega), lv, Nat.sub_self] at h8
              cases h8
              have lR : (rowOf h M j').length = cs.length := by unfold rowOf; rw [ea]; simp
              refine s7.th (Eth.th (ts := (rowOf h M j').map enT) ⟨by rw [lv2, List.length_map, lR, lb], fun i' v t h1 h2 => ?_⟩ h5 (by rw [List.length_map, lR]; omega))
              rw [List.getElem?_map] at h2
              obtain ⟨e, he, rfl⟩ := Option.map_eq_some_iff.mp h2
              exact k5.th (hth2 i' v e h1 he)
      | _ => rw [et] at e1; cases e1
    · obtain ⟨vs, hL, lv, hth, kG⟩ := hx
      have DG := dr_same kG D3
      refine ⟨_, rfl, _, rfl, L, _, rfl, .inl ⟨SqL.of hL, fun tt ntt => ⟨show 3 ≤ sizeLine by decide, fun q nq => ?_⟩⟩⟩
      have k5 : Kp G (upd G tt (.tup vs)) := Kp.refl.new ntt
      have h5 : (upd G tt (.tup vs)) tt = some (.tup vs) := upd_same
      generalize upd G tt (.tup vs) = G5 at k5 h5 nq ⊢
      have k6 : Kp G5 (upd G5 q (.tup [.str "program", .ref hp0, .ref tt])) := Kp.refl.new nq
      have h6 : (upd G5 q (.tup [.str "program", .ref hp0, .ref tt])) q = some (.tup [.str "program", .ref hp0, .ref tt]) := upd_same
      generalize upd G5 q (.tup [.str "program", .ref hp0, .ref tt]) = G6 at k6 h6 ⊢
      have k36 := (kG.trans k5).trans k6
      have hG6 := k36.th hG3
      have tb6 := tb3.keep k36
      have D6 := dr_same k36 D3
      have lR := rows_len h M
      have PD := long_prog HD hM0
      have hrows : IsTh G6 (.ref tt) (.tup ((rowsOf h M).map rowTh)) := by
        refine Eth.th ⟨by rw [lv, List.length_map, lR], fun i' v t h1 h2 => ?_⟩ (k6 _ _ h5) (by rw [List.length_map, lR]; omega)
        have hlt : i' < M := by rw [← lv]; exact (List.getElem?_eq_some_iff.mp h1).1
        rw [List.getElem?_map, rows_get hlt] at h2
        cases h2
        exact k6.th (k5.th (hth i' v h1))
      have hprog : IsTh G6 (.ref q) (pT h (rowsOf h M)) := Eth.th (ts := [sT "program", h, .tup ((rowsOf h M).map rowTh)]) (.cons (isTh_word (x := "program") (by decide +kernel)) (.cons hG6 (.one hrows))) h6 (by simp)
      refine ⟨200, rfl, by decide, by decide, fun L3 nL3 => ?_⟩
      have far := dr_far D6 nL3
      have lnm : (Pr.namesOf h).length ≤ 5 := by unfold Pr.namesOf strsOf; rw [List.length_map, List.length_map]; exact hP.len
      have lnm1 : 1 ≤ (Pr.namesOf h).length := by unfold Pr.namesOf strsOf; rw [List.length_map, List.length_map]; exact HD.one
      refine lc_range (lo := 0) (n := 200) (fun i G => ∃ ws : List Str, G L3 = some (.lst (ws.map V.str)) ∧ ws.length = i ∧ (∀ s ∈ ws, s ∈ Pr.namesOf h) ∧ Dr G d wp cp (n + 200 - i) ∧ But d wp G6 G) ⟨[], upd_same, rfl, (fun s h => by simp at h), dr_put (dr_le (by omega) D6) far, but_new nL3⟩ (fun i G hi hx => ?_) (fun G hx => ?_)
      · obtain ⟨ws, hL3, lw, hws, DG, BG⟩ := hx
        have hG := (soft_but D6 DG BG).th hG6
        refine ⟨rfl, _, rfl, _, rfl, .ref hp0, h, rfl, hG, HD.ok, fun p9 G9 k9 np9 hp9 => ?_⟩
        have D9 : Dr G9 d wp cp ((n + 200 - (i + 1)) + 1) := dr_le (by omega) (dr_same k9 DG)
        have hL9 := k9 _ _ hL3
        refine ⟨d, wp, cp, p9, n + 200 - (i + 1), _, rfl, D9, hp9, ?_, by rw [List.length_map]; omega, by rw [List.length_map]; omega, fun i' y H4 hy D4 B4 => ?_⟩
        · intro e
          obtain ⟨ws, cs, r, t, a, _⟩ := DG
          rw [e, a.wl] at np9; cases np9
        rw [List.getElem?_map] at hy
        obtain ⟨x, hx', rfl⟩ := Option.map_eq_some_iff.mp hy
        have hL4 := B4 L3 _ hL9 far.1 far.2.1
        refine ⟨_, hL4, by rw [List.length_map, lw, sizeLine_eq]; omega, ws ++ [x], ?_, by rw [List.length_append, lw]; rfl, fun s hs => ?_, dr_put D4 far, fun b o e h2 h3 => ?_⟩
        · rw [upd_same, List.map_append]; rfl
        · rcases List.mem_append.mp hs with h' | h'
          · exact hws s h'
          · rw [List.mem_singleton.mp h']; exact List.mem_of_getElem? hx'
        · rw [upd_ne (fun y => by rw [y, nL3] at e; cases e)]
          exact B4 b o (k9 b o (BG b o e h2 h3)) h2 h3
      · obtain ⟨ws, hL3, lw, hws, DG, BG⟩ := hx
        refine ⟨L3, _, rfl, .inl ⟨SqL.of hL3, fun wq nwq => ⟨_, _, rfl, ?_⟩⟩⟩
        have k7 : Kp G (upd G wq (.tup (ws.map V.str))) := Kp.refl.new nwq
        have h7 : (upd G wq (.tup (ws.map V.str))) wq = some (.tup (ws.map V.str)) := upd_same
        generalize upd G wq (.tup (ws.map V.str)) = G7 at k7 h7 ⊢
        have sG := soft_but D6 DG BG
        have hprog7 := k7.th (sG.th hprog)
        have tb7 := (tabs_but tb6 D6 BG).keep k7
        have D7 := dr_same k7 DG
        have wk := walk_ok PD ws 0 PD.one hws
        have hwn : ∀ s ∈ ws, Nam s := fun s hs => HD.nam s (hws s hs)
        refine ⟨_, rfl, _, rfl, _, _, rfl, tb7, .inr ⟨h, rowsOf h M, wq, ws, rfl, hprog7, PD, h7, hws, by omega, fun G8 g8 => ?_⟩⟩
        have est : stAt (Pr.namesOf h) (rowsOf h M) 0 ws = 200 % M := by
          have := long_st (M := M) HD hM0 ws 0 (by omega) hws
          rw [lw, Nat.zero_add] at this
          exact this
        refine ⟨_, rfl, _, _, rfl, rfl, by omega, rfl, _, rfl, ?_⟩
        have e9 : (!decide (V.int ((stAt (Pr.namesOf h) (rowsOf h M) 0 ws : Nat) : Int) = V.int ((200 : Int) % (M : Int)))) = false := by
          rw [est, show ((200 : Int) % (M : Int)) = ((200 % M : Nat) : Int) by norm_cast]
          simp
        refine iteF' e9 ?_
        refine ⟨_, rfl, _, _, rfl, Go.th tb7 g8 hprog7, g8.tb, fun G9 g9 => ?_⟩
        refine ⟨_, _, rfl, rfl, _, rfl, iteF' (by rw [progT_D PD]; rfl) ?_⟩
        have g79 := g8.trans g9
        have h9 := tb7.at g79.fr h7 fun ps y => by cases y
        refine ⟨_, rfl, _, rfl, _, _, rfl, g9.tb, .inr ⟨h, rowsOf h M, wq, ws, rfl, Go.th tb7 g79 hprog7, PD, h9, hws, by omega, fun v1 Ga ga hv1 => ?_⟩⟩
        have g7a := g79.trans ga
        have ha := tb7.at g7a.fr h7 fun ps y => by cases y
        refine ⟨_, rfl, _, rfl, _, h, rowsOf h M, wq, ws, rfl, Go.th tb7 g7a hprog7, PD, ha, hws, by omega, fun v2 Gb kb hv2 => ?_⟩
        have sh := his_shaped hwn fun e he => (wk.1 e he).1
        refine ⟨_, _, dp_his (kb.th hv1), dp_his hv2, sh, sh, ?_⟩
        rw [sh_eq sh]
        exact k Gb (g7a.tb.keep kb) (dr_same kb (dr_go tb7 g7a (dr_le (by omega) D7))) fun b o n1 n2 n3 e => kb _ _ (g7a.fr _ _ n3 (k7 _ _ (BG _ _ (k36 _ _ (k23 _ _ (B2 _ _ (B1 _ _ e n1 n2) n1 n2))) n1 n2)))
end
end Ll

set_option Elab.async false
set_option linter.all false
set_option maxRecDepth 100000
set_option maxHeartbeats 2000000
/-! a list comprehension whose test rests on what the running frame knows where it begins. -/
namespace Cf
open PySem PySem.Spec PyProof.Rows L2
section
variable {X : Cx} {Ω : Type} {Φ : Ω → Shared → Hp → Prop}
/-- [elt for tg in iter if ..]: what Φ tells of the state at the block's entry may be used by the tests -/
theorem pe_lcW {elt tg iter : Expr} {ifs : List Expr} {scope : Scope} {own : List (Str × Nat)} {pos : Pos} {wi : TI} {g : TG} {tt : Ω → TT} {te : TE} (calm : X.calm = true) (nd : X.N.Nodup) (pi : PI X tg iter wi) (ok : BlkOk X.N X.env.scope scope own)
    (pg : ∀ (s : Shared) (H : Hp) (C : Addr) (cl : List (Str × Addr)) (fp : List Addr), PG (X.blk s H scope (compEnvC scope cl C X.env) fp) tg g)
    (pt : ∀ (ω : Ω) (s : Shared) (H : Hp) (C : Addr) (cl : List (Str × Addr)) (fp : List Addr), Φ ω s H → (∀ b ∈ fp, ∀ x c, X.env.cells.lookup x = some c → c ≠ b) → PTs (X.blk s H scope (compEnvC scope cl C X.env) fp) ifs (tt ω))
    (pe : ∀ (s : Shared) (H : Hp) (C : Addr) (cl : List (Str × Addr)) (fp : List Addr), PE (X.blk s H scope (compEnvC scope cl C X.env) fp) elt te) (fs : ∀ x, foldedSetIterable iter X.env x = pure x := by intro _; rfl) :
    PE X (.ListComp elt [⟨tg, iter, ifs, 0⟩] scope pos) (fun σ H Q => ∃ ω, (∀ pins s H', Inv X pins σ H' s → Φ ω s H') ∧ tLc wi g (tt ω) te (own.map (·.2)) σ H Q) := by
  refine ⟨fun pins s σ H Q I hq => ?_⟩
  obtain ⟨ω, give, hq⟩ := hq
  rw [eval_ListComp]
  have caught : ∀ y ∈ scope.names, y.2 = .free → ∃ c, X.env.cells.lookup y.1 = some c := fun y hy e => (ok.free y hy e).elim (fun z => I.ok.has _ (Or.inl z)) (fun z => I.ok.has _ (Or.inr z))
  refine wpAny_comprehension_free (use := none) rfl fs (closure_ok caught) ok.kind (fun y hy e => (ok.uniq y hy).trans (congrArg some e)) (thn (pi.run pins s σ H _ I hq) fun src sA rA => thn rA fun itr sB rB => ?_)
  obtain ⟨it, feet, along, J, HB, rfl, IB, turn, at0, far, rest⟩ := rB
  refine wpAny_newObj_type (newEnv_comp ?_) (Nat.zero_le _)
  obtain ⟨Wk, ⟨μ, w0⟩, step⟩ := rest sB.heap.objs.size (IB.hok.fresh (Nat.le_refl _))
  -- the list is laid
  obtain ⟨sC, eC⟩ : ∃ sC : Shared, sC = { sB with heap := sB.heap.push { cls := .type "list", data := .seq ([] : List Value).toArray } } := ⟨_, rfl⟩
  obtain ⟨HC, eH⟩ : ∃ HC : Hp, HC = upd HB sB.heap.objs.size (.lst []) := ⟨_, rfl⟩
  have hC : sC.heap = sB.heap.push { cls := .type "list", data := .seq ([] : List Value).toArray } := by rw [eC]
  have IC : Inv X pins σ HC sC := by
    rw [eC, eH]
    exact IB.laid (t' := sB.toks) (fun b o e => Heap.get?_push_of_some _ e) (Nat.le_refl _) ⟨Nat.zero_le _, [], 0, .nil, Heap.get?_push_size _ rfl⟩
  have below : ∀ b ∈ feet, b < sB.heap.objs.size := fun b hb => (turn.obj _ _ at0 b hb).elim fun o e => Heap.lt_size e.1
  have farC : ∀ b ∈ feet, FpOk X pins HC b ∧ b < sC.heap.objs.size := fun b hb => by
    have lt := below b hb
    refine ⟨⟨?_, (far b hb).2⟩, by rw [hC, Heap.size_push]; exact Nat.lt_succ_of_lt lt⟩
    rw [eH, upd_ne (Nat.ne_of_lt lt)]
    exact (far b hb).1
  have IY := block_start IC ok nd farC
  obtain ⟨cl, ecl⟩ : ∃ cl, cl = cellsFrom (sC.heap.objs.size + 1) scope.names (cloFrom X.env.cells scope.names []) := ⟨_, rfl⟩
  have PGY := pg sC HC sC.heap.objs.size cl feet
  have PTY := pt ω sC HC sC.heap.objs.size cl feet (give pins sC HC IC) (fun b hb => (farC b hb).1.2.2.2.2.1)
  have PEY := pe sC HC sC.heap.objs.size cl feet
  obtain ⟨sD, eD⟩ : ∃ sD : Shared, sD = { sC with heap := pushCells (sC.heap.push { cls := .type "dict", data := .dict #[] }) scope.names } := ⟨_, rfl⟩
  obtain ⟨ce, ece⟩ : ∃ ce, ce = compEnvC scope cl sC.heap.objs.size X.env := ⟨_, rfl⟩
  have atC : along 0 sC.heap := turn.keep _ _ _ at0 fun b _ o e => by rw [hC]; exact Heap.get?_push_of_some _ e
  have atD : along 0 sD.heap := turn.keep _ _ _ atC fun b _ o e => by rw [eD]; exact pushCells_keeps _ _ _ _ (Heap.get?_push_of_some _ e)
  have bare : ∀ b ∈ feet, HC b = none := fun b hb => (farC b hb).1.1
  rw [← ecl, ← ece, ← eD] at IY
  rw [← ece] at PGY PTY PEY
  have loc : ce.locals = sC.heap.objs.size := by rw [ece]; rfl
  have stands : ∀ {σ' : L2.St} {H' : Hp} {s' : Shared}, Inv (X.blk sC HC scope ce feet) [] σ' H' s' → (∀ b ∈ feet, H' b = none) → ∀ b ∈ feet, FpOk (X.blk sC HC scope ce feet) [] H' b := fun {σ' H' s'} I' hn b hb =>
    ⟨hn b hb, (I'.ok.exf b hb).1, I'.ok.exfs b hb, Or.inl hb, fun x c e => (I'.ok.exf b hb).2 x c e, fun p hp => absurd (show p ∈ ([] : List (Addr × Obj)) ++ [] from hp) List.not_mem_nil⟩
  suffices loop : codeAny (model X.prog X.w) X.A (.compLoop (.ListComp elt [⟨tg, iter, ifs, 0⟩] scope pos) 0 (.ref it) (.ref sB.heap.objs.size) ce) (compPost (model X.prog X.w) X.A X.xe none (EP X pins σ Q) (.ref sB.heap.objs.size) sC.heap.objs.size) sD by
    have fine := codeAny_compStart_list loop (turn.self X.A 0 _ _ _ atD loop)
    rw [ece, ecl, eD, eC] at fine
    exact fine
  refine compLoop_any (fun n s' => ∃ i H', Inv (X.blk sC HC scope ce feet) [] (wipe σ (own.map (·.2))) H' s' ∧ along i s'.heap ∧ (∀ b ∈ feet, H' b = none) ∧ Wk i n H') ?_ μ ⟨0, HC, IY, atD, bare, by rw [eH]; exact w0⟩
  rintro n s1 ⟨i, H1, I1, at1, b1, w1⟩
  rcases step i n H1 w1 with ⟨halt, q⟩ | ⟨goes, Nx, less, next⟩
  · -- the walk's end
    refine thnF (turn.done (X.blk sC HC scope ce feet) rfl rfl rfl calm i [] s1 _ H1 (fun _ _ => False) I1 (stands I1 b1) at1 halt) fun r s2 z => ?_
    obtain ⟨rfl, I2⟩ := z
    have I3 : Inv X pins σ H1 s2 := IC.call' (ch := feet) I2.os I2.base I2.hok I2.bare fun b hb => ⟨(farC b hb).1.2.2.2.1, (farC b hb).1.2.1, (farC b hb).1.2.2.2.2.1, (farC b hb).1.2.2.2.2.2⟩
    have gone : H1 sC.heap.objs.size = none := by have z := I2.free; rw [show (X.blk sC HC scope ce feet).env.locals = sC.heap.objs.size from loc] at z; exact z
    obtain ⟨m, ns, _⟩ := I2.loc
    rw [show (X.blk sC HC scope ce feet).env.locals = sC.heap.objs.size from loc] at ns
    obtain ⟨f0, f1, f2, f3, f4, f5⟩ := IC.fpOk (Nat.le_refl _) gone
    exact ⟨m, ns, fun h'' sb => ⟨.ref sB.heap.objs.size, H1, I3.turned (t' := s2.toks) (fun b o hb e => (sb.2 b hb).trans e) f0 f1 f3 f4 f5, rfl, q⟩⟩
  · -- one more
    refine thnF (turn.item (X.blk sC HC scope ce feet) rfl rfl rfl calm i [] s1 _ H1 (fun _ _ => False) I1 (stands I1 b1) at1 goes) fun r s2 z => ?_
    obtain ⟨u, rfl, z⟩ := z
    refine thnF z fun _ s3 y => ?_
    obtain ⟨x, H3, I3, ru, yy, at3, b3⟩ := y
    refine thnF (PGY.run _ s3 _ H3 x u _ (I3.pinned (stands I3 b3) (turn.obj _ _ at3)) ru (next x H3 yy)) fun _ s4 y4 => ?_
    obtain ⟨σ4, H4, I4, same, q4⟩ := y4
    refine thnF (PTY.run _ s4 σ4 H4 _ I4 q4) fun b s5 y5 => ?_
    obtain ⟨H5, I5, q5⟩ := y5
    have onward : ∀ {s' : Shared} {H' : Hp}, Inv (X.blk sC HC scope ce feet) ([] ++ pinsAt feet s3.heap) σ4 H' s' → Nx H' → ∃ m, m < n ∧ ∃ i H', Inv (X.blk sC HC scope ce feet) [] (wipe σ (own.map (·.2))) H' s' ∧ along i s'.heap ∧ (∀ b ∈ feet, H' b = none) ∧ Wk i m H' := fun {s' H'} I' nx => by
      obtain ⟨m, lt, w2⟩ := less H' nx
      have held : ∀ b ∈ feet, ∀ o, s3.heap.get? b = some o → s'.heap.get? b = some o ∧ H' b = none := fun b hb o e => by
        have z := I'.pin (b, o) (List.mem_append_right _ (List.mem_append_right _ (mem_pinsAt hb e)))
        exact ⟨z.1, z.2.1⟩
      refine ⟨m, lt, i + 1, H', (I'.unpinned (pins := [])).weak (by rw [wipe_length, ← wipe_length σ4 (own.map (·.2)), same, wipe_length]) (fun j v e => (wipe_some (by rw [same]; exact e)).1), turn.keep _ _ _ at3 fun b hb o e => (held b hb o e).1, fun b hb => ?_, w2⟩
      exact (turn.obj _ _ at3 b hb).elim fun o e => (held b hb o e.1).2
    cases b with
    | false =>
      rw [if_neg Bool.false_ne_true] at q5 ⊢
      exact onward I5 q5
    | true =>
      rw [if_pos rfl] at q5 ⊢
      refine thnF (PEY.run _ s5 σ4 H5 _ I5 q5) fun z s6 y6 => ?_
      obtain ⟨yv, H6, I6, r6, acc, hacc, short, nx⟩ := y6
      exact app_ok (X := X.blk sC HC scope ce feet) I6 hacc short r6 fun s7 I7 => onward I7 nx
end
end Cf

set_option Elab.async false
set_option linter.all false
set_option maxRecDepth 100000
set_option maxHeartbeats 2000000
/-! lambdas without parameters as objects that are kept; their calls from any frame. -/
namespace Lm
open PySem PySem.Spec PyProof.Rows L2 LamX NdefX
/-- the object at f is a lambda that captured the cells cl -/
def LamO (f : Addr) (q : Str) (params : Arguments) (body : Expr) (scope : Scope) (cl : List (Str × Addr)) (c' : Addr) : HO := .ext fun h => ∃ (pm ctv : Value), h.get? f = some (PySem.W.kla_obj "<lambda>" q params body scope cl pm c' ctv)
theorem lamO_ne {f : Addr} {q : Str} {params : Arguments} {body : Expr} {scope : Scope} {cl : List (Str × Addr)} {c' : Addr} (ps : Array Value) : LamO f q params body scope cl c' ≠ .tbl ps := fun z => by
  unfold LamO at z; cases z
section
variable {X : Cx} {pins : List (Addr × Obj)} {σ : L2.St} {H : Hp} {s : Shared}
theorem inv_lam {q : Str} {params : Arguments} {body : Expr} {scope : Scope} {cl : List (Str × Addr)} {c' : Addr} {pm ctv : Value} {tk : Nat} (I : Inv X pins σ H s) :
    Inv X pins σ (upd H s.heap.objs.size (LamO s.heap.objs.size q params body scope cl c')) { s with heap := s.heap.push (PySem.W.kla_obj "<lambda>" q params body scope cl pm c' ctv), toks := tk } := by
  have at_ : (s.heap.push (PySem.W.kla_obj "<lambda>" q params body scope cl pm c' ctv)).get? s.heap.objs.size = some (PySem.W.kla_obj "<lambda>" q params body scope cl pm c' ctv) := Heap.get?_push_size _ rfl
  refine I.laid (a := s.heap.objs.size) (fun b u e => Heap.get?_push_of_some _ e) (Nat.le_refl _) ⟨⟨pm, ctv, at_⟩, ⟨_, at_⟩, fun h1 h2 z k => ?_⟩
  obtain ⟨p, t, e⟩ := z
  exact ⟨p, t, k _ e⟩
/-- a lambda made: it is kept -/
theorem pe_lamO {c PL : Addr} {params : Arguments} {body : Expr} {scope : Scope} {pos : Pos} {q : Str} (TB : TabB X.base X.mg c PL) (hcode : X.env.code = .ref c) (hq : X.env.qual ++ "<lambda>" = q) (L : LamS X.env.scope scope) (hdef : defaultsOf params X.env = ([], [])) :
    PE X (.Lambda params body scope pos) (fun σ H Q => TabS H PL q ∧ ∀ (f c' : Addr) (H1 : Hp), (∀ b o, b ≠ PL → H b = some o → H1 b = some o) → TabS H1 PL q → H f = none → H1 f = some (LamO f q params body scope (cloFrom X.env.cells scope.names []) c') → H1 c' = some (CodeO c' q) → Q (.ref f) H1) := by
  subst hq
  refine ⟨fun pins s σ H Q I y => ?_⟩
  obtain ⟨⟨ps, hP, tri, known⟩, go⟩ := y
  have bP : s.heap.BuiltinsAt X.mg PL := TB.bm.keeps I.bk
  have tabH : s.heap.get? PL = some { cls := .none, data := .fields ps } := I.hok PL _ hP
  refine PySem.W.kla_eval hdef ?_
  cases found : codeAmong pos ps.toList with
  | none =>
    refine PySem.W.kla_makeFunction (mg := X.mg) (c := c) (P := PL) (ps := ps) (closure_ok (L.has I.ok)) I.ok.glob (I.mod.glob.keeps I.bk) hcode (TB.code.keeps I.bk) tabH tri found TB.gP bP fun c' ctv h1 tk grown above under rec_ tab1 => ?_
    obtain ⟨c2, oc, vs, t, e2, hoc, hd, hv⟩ := rec_
    cases e2
    have nC : H c' = none := I.hok.fresh above
    have I1 := inv_table (t' := tk) (more := #[rawInt pos.line, rawInt pos.col, .ref c']) (h' := h1) I hP (fun b o hb e => grown b o hb e) tab1 above ⟨oc, vs, t, hoc, hd, hv⟩
    have keep1 : ∀ b o, b ≠ PL → H b = some o → (upd (upd H PL (.tbl (ps ++ #[rawInt pos.line, rawInt pos.col, .ref c']))) c' (CodeO c' (X.env.qual ++ "<lambda>"))) b = some o := fun b o n e => by
      rw [upd_ne (ne_of_none e nC), upd_ne n]; exact e
    have atC : (upd (upd H PL (.tbl (ps ++ #[rawInt pos.line, rawInt pos.col, .ref c']))) c' (CodeO c' (X.env.qual ++ "<lambda>"))) c' = some (CodeO c' (X.env.qual ++ "<lambda>")) := upd_same
    have atP : (upd (upd H PL (.tbl (ps ++ #[rawInt pos.line, rawInt pos.col, .ref c']))) c' (CodeO c' (X.env.qual ++ "<lambda>"))) PL = some (.tbl (ps ++ #[rawInt pos.line, rawInt pos.col, .ref c'])) := by rw [upd_ne (ne_of_none hP nC), upd_same]
    generalize upd (upd H PL (.tbl (ps ++ #[rawInt pos.line, rawInt pos.col, .ref c']))) c' (CodeO c' (X.env.qual ++ "<lambda>")) = H1 at I1 keep1 atC atP
    have fresh1 : H1 h1.objs.size = none := I1.hok.fresh (Nat.le_refl _)
    have I2 := inv_lam (q := X.env.qual ++ "<lambda>") (params := params) (body := body) (scope := scope) (cl := cloFrom X.env.cells scope.names []) (c' := c') (pm := (X.mg "__name__").getD .none) (ctv := ctv) (tk := tk) I1
    have keep2 : ∀ b o, H1 b = some o → (upd H1 h1.objs.size (LamO h1.objs.size (X.env.qual ++ "<lambda>") params body scope (cloFrom X.env.cells scope.names []) c')) b = some o := fun b o e => by rw [upd_ne (ne_of_none e fresh1)]; exact e
    have noF : H h1.objs.size = none := by
      cases e : H h1.objs.size with
      | none => rfl
      | some o =>
        by_cases n : h1.objs.size = PL
        · rw [n, atP] at fresh1; cases fresh1
        · rw [keep1 _ o n e] at fresh1; cases fresh1
    refine ⟨.ref h1.objs.size, _, I2, rfl, go h1.objs.size c' _ (fun b o n e => keep2 b o (keep1 b o n e)) ⟨_, keep2 _ _ atP, ?_, fun p' cv hcv => ?_⟩ noF upd_same (keep2 _ _ atC)⟩
    · rw [Array.toList_append]
      exact PySem.TriplesOk_snoc _ _ _ _ tri
    · rw [Array.toList_append] at hcv
      rcases among_app _ tri hcv with z | z
      · obtain ⟨c0, e1, e2⟩ := known p' cv z
        exact ⟨c0, e1, keep2 _ _ (keep1 _ _ (fun y => by rw [y, hP] at e2; exact codeO_ne _ (Option.some.inj e2).symm) e2)⟩
      · exact ⟨c', z, keep2 _ _ atC⟩
  | some cv =>
    obtain ⟨c', rfl, atC⟩ := known pos cv found
    refine PySem.W.kla_makeFunctionHit (mg := X.mg) (c := c) (P := PL) (ps := ps) (closure_ok (L.has I.ok)) I.ok.glob (I.mod.glob.keeps I.bk) hcode (TB.code.keeps I.bk) tabH tri found bP fun ctv h1 tk grown above => ?_
    have I1 : Inv X pins σ H { s with heap := h1, toks := tk } := I.kept grown
    have I2 := inv_lam (q := X.env.qual ++ "<lambda>") (params := params) (body := body) (scope := scope) (cl := cloFrom X.env.cells scope.names []) (c' := c') (pm := (X.mg "__name__").getD .none) (ctv := ctv) (tk := tk) I1
    have fresh1 : H h1.objs.size = none := I1.hok.fresh (Nat.le_refl _)
    have keep2 : ∀ b o, H b = some o → (upd H h1.objs.size (LamO h1.objs.size (X.env.qual ++ "<lambda>") params body scope (cloFrom X.env.cells scope.names []) c')) b = some o := fun b o e => by rw [upd_ne (ne_of_none e fresh1)]; exact e
    exact ⟨.ref h1.objs.size, _, I2, rfl, go h1.objs.size c' _ (fun b o _ e => keep2 b o e) ⟨ps, keep2 _ _ hP, tri, fun p' cv hcv => let ⟨c0, e1, e2⟩ := known p' cv hcv; ⟨c0, e1, keep2 _ _ e2⟩⟩ fresh1 upd_same (keep2 _ _ atC)⟩
end
end Lm

set_option Elab.async false
set_option linter.all false
set_option maxRecDepth 100000
set_option maxHeartbeats 2000000
/-! kept lambdas called, by a def that catches what they raise. -/
namespace Lk
open PySem PySem.Spec PyProof.Rows L2 LamX NdefX Lm
def lamF (q : Str) (params : Arguments) (scope : Scope) (cl : List (Str × Addr)) (c' : Addr) : NF := ⟨"<lambda>", q, params, [], scope, cl, c'⟩
/-- what a kept lambda promises, wherever it is called -/
def LRun (P : Program) (w : World) (K : PySem.W.Frag) (mg : Str → Option Value) (base : Heap) (k : Nat) (q : Str) (params : Arguments) (body : Expr) (scope : Scope) (cl : List (Str × Addr)) (fr : List Str) (sp : List (Option V) → Sp) : Prop :=
  ∀ (f c' : Addr) (A : Around) (outer : List Env) (s : Shared) (H : Hp) (ws : List (Option V)) (Q : VK) (E : XK), Room k A → Env0 P w K mg base A outer s H → H f = some (LamO f q params body scope cl c') → H c' = some (CodeO c' q) → CellsAt cl fr ws s.heap H → sp ws [] H Q E →
    codeAny (model P w) A (.call (.ref f) ⟨[], []⟩) (CR (L2.CX P w) outer P w H s Q E) s
theorem lrun_of {P : Program} {w : World} {K : PySem.W.Frag} {mg : Str → Option Value} {base : Heap} {k : Nat} {q : Str} {params : Arguments} {body : Expr} {scope : Scope} {cl : List (Str × Addr)} {N fr : List Str} {sp : List (Option V) → Sp} (S : NScope N [] fr scope)
    (hb : ∀ (pm ctv : Value) (c' : Addr), bindArgs (PySem.W.kla_fn "<lambda>" q params body scope cl pm (.ref c') ctv) ⟨[], []⟩ = pure [])
    (hbody : ∀ (f c' : Addr) (A : Around) (outer : List Env) (s : Shared) (H : Hp) (ws : List (Option V)) (Q : VK) (E : XK), Room k (A.deeper (envF (lamF q params scope cl c') f s.heap.objs.size)) → ws.length = fr.length → sp ws [] H Q E →
      ∃ te, PE (ncx (L2.CX P w) P w K mg base N (lamF q params scope cl c') f A outer s H E) body te ∧ te (startF N [] ws) H Q) : LRun P w K mg base (k + 1) q params body scope cl fr sp := by
  intro f c' A outer s H ws Q E hr e0 hf hc C y
  have lim : s.heap.NoLimit := e0.mod.nolimit.keeps fun b o e => (e0.bs b o e).1
  obtain ⟨⟨pm, ctv, ho⟩, _, _⟩ := (show ObjOk P w H s.heap f (LamO f q params body scope cl c') from e0.hok f _ hf)
  refine PySem.W.kla_callFunE hr.depth ho rfl S.co S.gen rfl (codeO_at e0.hok hc) ?_
  rw [hb]
  refine wpAny_pure (wpAny_newFunctionEnv S.nocell (fun y hy => absurd hy List.not_mem_nil) (fun h1 ns sb => ⟨lim.fresh _ sb, ?_⟩) S.kind)
  show codeAny _ _ (.expr body (envF (lamF q params scope cl c') f s.heap.objs.size)) _ _
  obtain ⟨te, pe, z⟩ := hbody f c' A outer s H ws Q E (hr.deeper _) C.len y
  have I := inv_startN (CX := L2.CX P w) (f := f) (E := E) (tk := s.toks + 0) (ps := []) (vs := []) (us := []) (F := lamF q params scope cl c') S hr.hd e0 rfl .nil C ns (fun b o e => sb.extBut b o (Nat.ne_of_lt (Heap.lt_size e)) (Heap.get?_push_of_some _ e))
  refine PySem.W.kla_codeExpr (wpAny_mono (pe.run [] _ _ H _ I z) (fun v s' o => ?_) fun e s' o => o)
  obtain ⟨x, H', J, r, o⟩ := o
  exact ⟨x, H', J.os, J.bare, J.base, J.hok, r, o⟩
section
variable {X : Cx} {k i : Nat} {q : Str} {params : Arguments} {body : Expr} {scope : Scope} {cl : List (Str × Addr)} {fr : List Str} {ws : List (Option V)} {sp : List (Option V) → Sp} {W : WX} {x : Str} {p1 p2 : Pos}
/-- x() of a kept lambda, under a try -/
theorem pe_work (R : LRun X.prog X.w X.K X.mg X.base k q params body scope cl fr sp) (tk : Takes X W) (hr : Room k X.A) (C : CellsAt cl fr ws X.s_0.heap X.H_0) (far : ∀ y c, cl.lookup y = some c → c ∉ X.fs ∧ c ∉ X.ex) (hN : X.N[i]? = some x) (hv : Vis X.env.scope x)
    (hd : (x == ("__debug__" : Str)) = false := by decide) (hcd : (x == ("__classdict__" : Str)) = false := by decide) :
    PE X (.Call (.Name x p1) [] [] p2) (fun σ H Q => ∃ f c', σ[i]? = some (some (.ref f)) ∧ H f = some (LamO f q params body scope cl c') ∧ H c' = some (CodeO c' q) ∧ sp ws [] H Q fun cls d H2 => W cls d σ H2) := by
  refine ⟨fun pins s σ H Q I y => ?_⟩
  obtain ⟨f, c', hs, hf, hc, y⟩ := y
  refine wpAny_Call_Name_kw (thn ((pe_var (pos := p1) (i := i) hN hv hd hcd).run pins s σ H (fun v H1 => v = .ref f ∧ H1 = H) I ⟨.ref f, hs, rfl, rfl⟩) fun u s1 z => ?_)
  obtain ⟨v, H1, I1, r1, rfl, rfl⟩ := z
  obtain rfl : u = Value.ref f := r1
  obtain ⟨⟨pm, ctv, ho⟩, _, _⟩ := (show ObjOk X.prog X.w H1 s1.heap f (LamO f q params body scope cl c') from I1.hok f _ hf)
  refine PySem.W.callWith_F0 (first := []) ⟨_, _, _, _, ho⟩ ?_
  refine wpAny_call (codeAny_mono (R f c' X.A X.stack s1 H1 ws Q _ hr I1.env0 hf hc (C.later (fun y c e => (far y c e).1) (fun y c e => (far y c e).2) I1) y) fun res s2 hq => ?_)
  cases res with
  | error u => exact tk u s2 (XE.of_call I1 (fun _ _ _ z => z) hq)
  | ok fl =>
    cases fl with
    | ret u => exact I1.after hq
    | next => exact hq.elim
    | brk => exact hq.elim
    | cont => exact hq.elim
end
end Lk

set_option Elab.async false
set_option linter.all false
set_option maxRecDepth 100000
set_option maxHeartbeats 2000000
/-! try .. except X as n: the caught error is an object like others in the suite and behind it. -/
namespace Ky
open PySem PySem.Spec PyProof.Rows L2
/-- an error at a: its class, its dict -/
def exv (a : Addr) (cls : Value) (d : Option Addr) : HO := .ext fun h => ∃ (o : Obj) (vs : Array Value), h.get? a = some o ∧ o.cls = cls ∧ o.dict = d ∧ o.data = .fields vs
section
variable {X : Cx} {pins : List (Addr × Obj)} {σ : L2.St} {H : Hp} {s : Shared}
theorem exv_ok {P : Program} {w : World} {h : Heap} {a : Addr} {o : Obj} {vs : Array Value} (e : h.get? a = some o) (hd : o.data = .fields vs) : ObjOk P w H h a (exv a o.cls o.dict) :=
  ⟨⟨o, vs, e, rfl, rfl, hd⟩, ⟨o, e⟩, fun h1 h2 y k => by
    obtain ⟨o', vs', y1, y2⟩ := y
    exact ⟨o', vs', k o' y1, y2⟩⟩
/-- an object that came since the entry is tracked from now on -/
theorem Inv.adopt {a : Addr} {u : HO} (I : Inv X pins σ H s) (na : H a = none) (n0 : X.s_0.heap.get? a = none) (nL : a ≠ X.env.locals) (nC : ∀ x c, X.env.cells.lookup x = some c → c ≠ a) (nP : ∀ p ∈ X.pn ++ pins, p.1 ≠ a) (new : ObjOk X.prog X.w (upd H a u) s.heap a u) : Inv X pins σ (upd H a u) s := by
  have far : ∀ b o, X.s_0.heap.get? b = some o → b ≠ a := fun b o e y => by rw [y, n0] at e; cases e
  have keep : ∀ {b o}, H b = some o → upd H a u b = some o := fun {b o} e => by rw [upd_ne (fun y => by rw [y, na] at e; cases e)]; exact e
  refine ⟨I.ok, I.os, I.bare, ⟨I.base.keep, I.base.slot, fun b o e n x => ?_, I.base.there, fun b xs e => keep (I.base.tups b xs e), fun b o v e => keep (I.base.frzs b o v e), fun b ps e => ?_⟩, I.loc, I.cell, ?_, fun x c e => ?_, fun p hp => ?_, I.hok.laidN (fun _ _ q => q) na new, I.len⟩
  · rw [upd_ne (far b o e)]; exact I.base.free b o e n x
  · obtain ⟨m, q⟩ := I.base.tbls b ps e
    exact ⟨m, keep q⟩
  · rw [upd_ne (Ne.symm nL)]; exact I.free
  · rw [upd_ne (nC x c e)]; exact I.freeC x c e
  · obtain ⟨p1, p2, p3⟩ := I.pin p hp
    exact ⟨p1, by rw [upd_ne (nP p hp)]; exact p2, p3⟩
/-- into a suite, out of it -/
theorem into (I : Inv X pins σ H s) (a : Addr) : Inv (X.suite a (X.pn ++ pins)) [] σ H s :=
  ⟨I.ok.suite _ _, I.os, I.bare, I.base, I.loc, I.cell, I.free, I.freeC, fun p hp => I.pin p (by rw [List.append_nil] at hp; exact hp), I.hok, I.len⟩
theorem outof {a : Addr} (ok : X.Ok) (I : Inv (X.suite a (X.pn ++ pins)) [] σ H s) : Inv X pins σ H s :=
  ⟨ok, I.os, I.bare, I.base, I.loc, I.cell, I.free, I.freeC, fun p hp => I.pin p (List.mem_append_left _ hp), I.hok, I.len⟩
/-- what the clause wishes of an error of the body: it is of the class c -/
def wOwn (K : PySem.W.Frag) (c : Value) (i : Nat) (ts : TS) (D : Ends) : WX := fun cls d σ H => PySem.W.exmOne K cls c = some true ∧ ∀ a, H a = none →
  ts ⟨fun σ' H' => D.nx (σ'.set i none) H', D.rt, fun σ' H' => D.bk (σ'.set i none) H', fun σ' H' => D.ct (σ'.set i none) H'⟩ (σ.set i (some (.ref a))) (upd H a (exv a cls d))
end
section
variable {X : Cx} {body suite : List Stmt} {b₀ : Stmt} {x n : Str} {np pos pos' : Pos} {c : Value} {i : Nat} {tb : WX → TS} {ts : TS}
theorem ps_try_own (hs : X.stack = X.env :: X.outer) (hf : X.env.frame = some X.env.locals) (hN : X.N.Nodup) (hi : X.N[i]? = some n) (hln : X.env.kindOf n = some .local) (hc : Names X x c) (hex : X.ex = [])
    (hb : ∀ (W : WX) (pn : List (Addr × Obj)) (xe : Value → Shared → Prop), Takes (X.tr pn xe) W → PassesOwn (model X.prog X.w) X.A X.env xe → PSs (X.tr pn xe) body (tb W)) (hsu : ∀ (a : Addr) (pn : List (Addr × Obj)), PSs (X.suite a pn) (b₀ :: suite) ts) :
    PS X (.Try body [.ExceptHandler (some (.Name x np)) (some n) (b₀ :: suite) pos'] [] [] pos) (fun D σ H => tb (wOwn X.K c i ts D) D σ H) := ⟨fun pins s σ H D I y => by
  have ok := I.ok
  have fr : X.A.frames = some (X.env :: X.outer) := by rw [ok.frames, hs]
  let caught : Value → Shared → Prop := fun e s1 => wpAny (model X.prog X.w) X.A (noteFrame e X.env) (fun _ s2 => wpAny (model X.prog X.w) X.A (setFlight e none) (fun _ s3 => wpAny (model X.prog X.w) X.A (handleBy e X.env [.ExceptHandler (some (.Name x np)) (some n) (b₀ :: suite) pos']) (SP X pins D) X.xe s3) X.xe s2) X.xe s1
  have catches : Takes (X.tr (X.pn ++ pins) caught) (wOwn X.K c i ts D) := fun u s' xx => by
    obtain ⟨a, B, sI, ps, σ1, H1, cls, d, rfl, J0, nb, up, sky, na, os, ag, hm, yes⟩ := xx
    have J : Inv X pins σ1 H1 sI := J0.ofTry ok
    refine Sky.land Zc.steady fr hf (show Sky B (X.env :: X.outer) a (Zc cls d) X.env.locals s'.heap by rw [← hs]; exact sky) fun h3 fl up3 => ?_
    have J3 : Inv X pins σ1 H1 { s' with heap := h3 } := J.landed nb fl.1 (up.trans up3) os ag
    obtain ⟨o3, v3, e3, z3, d3⟩ := fl.there
    have nfr : a ∉ frs (X.env :: X.outer) := fun y => by
      obtain ⟨_, o', e', k'⟩ := fl.2.2.1.mem y
      rw [e3] at e'; cases e'
      exact k' _ d3
    have nL : a ≠ X.env.locals := fun y => nfr (List.mem_filterMap.mpr ⟨X.env, List.mem_cons_self, by rw [hf, y]⟩)
    have n0 : X.s_0.heap.get? a = none := by
      cases e : X.s_0.heap.get? a with
      | none => rfl
      | some o =>
        obtain ⟨o', q⟩ := J.base.there a o e (by rw [hex]; exact fun z => nomatch z)
        have q2 := nb a o' q (by rw [hs]; exact nfr)
        rw [fl.2.1] at q2; cases q2
    have nP : ∀ {h : Heap} {o : Obj}, h.get? a = some o → True := fun _ => True.intro
    have S3 := into J3 a
    refine wpAny_handleBy_cons (codeAny_handlers_test ?_) (by intro q; cases q)
    have LT : PySem.W.Looks (model X.prog X.w) h3 (typeOf (.ref a)) cls := fun A Q E s k q => wpAny_typeOf_ref (k _ _ e3) (by rw [z3.1]; exact q)
    have name : ∀ {Q : Value → Shared → Prop} {E : Value → Shared → Prop}, Q c { s' with heap := h3 } → wpAny (model X.prog X.w) (X.A.mark (some (.ref a))) (eval (.Name x np) X.env) Q E { s' with heap := h3 } := fun {Q E} q => by
      obtain ⟨g1, g2, g3 | ⟨g3, g4, g5⟩⟩ := hc
      · exact ld_glob (X := X.suite a (X.pn ++ pins)) S3 g1 g3 q g2
      · exact ld_blt (X := X.suite a (X.pn ++ pins)) S3 g1 g3 g4 q g5 g2
    refine name ((PySem.W.exm_one (M := model X.prog X.w) J3.kIn LT hm).here ?_)
    refine codeAny_handlers_suite_as (HandSPX.lands_againZ fl fun h4 fl4 up4 => ?_)
    have J4 : Inv X pins σ1 H1 { s' with heap := h4 } := J.landed nb fl4.1 ((up.trans up3).trans up4) os ag
    obtain ⟨o4, v4, e4, ⟨z1, z2⟩, d4⟩ := fl4.there
    subst z1; subst z2
    have nC : ∀ x c, X.env.cells.lookup x = some c → c ≠ a := fun x c e y => by
      obtain ⟨v, ⟨o, q1, q2⟩⟩ := J4.cell x c e
      rw [y, e4] at q1; cases q1
      rw [d4] at q2; cases q2
    have J5 := Inv.adopt (u := exv a o4.cls o4.dict) J4 na n0 nL nC (fun p hp y => ?_) (exv_ok e4 d4)
    · refine store_ok (X := X.suite a (X.pn ++ pins)) (v := .ref a) (into J5 a) hN hi (.inl hln) rfl (fun s5 S5 => ?_) (.inr hln)
      refine wpAny_mono ((hsu a (X.pn ++ pins)).run [] s5 _ _ _ S5 (yes a na)) (fun f s6 q => ?_) (fun _ _ z => z.elim)
      have gone : ∀ {σ6 : L2.St} {H6 : Hp} {R : Shared → Prop}, Inv (X.suite a (X.pn ++ pins)) [] σ6 H6 s6 → (∀ s7, Inv X pins (σ6.set i none) H6 s7 → R s7) → wpAny (model X.prog X.w) X.A (do bindName X.env n .none; unbindBehindTheSuite X.env n pos') (fun _ s7 => R s7) X.xe s6 := fun {σ6 H6 R} S6 r => gone_ok (outof ok S6) hN hi hln r
      cases f with
      | next => obtain ⟨σ6, H6, S6, q6⟩ := q; exact gone S6 fun _ J7 => ⟨_, _, J7, q6⟩
      | brk => obtain ⟨σ6, H6, S6, q6⟩ := q; exact gone S6 fun _ J7 => ⟨_, _, J7, q6⟩
      | cont => obtain ⟨σ6, H6, S6, q6⟩ := q; exact gone S6 fun _ J7 => ⟨_, _, J7, q6⟩
      | ret v => obtain ⟨v6, σ6, H6, S6, r6, q6⟩ := q; exact gone S6 fun _ J7 => ⟨_, _, _, J7, r6, q6⟩
    · obtain ⟨p1, _⟩ := J.pin p hp
      rw [y] at p1
      have q2 := nb a _ p1 (by rw [hs]; exact nfr)
      rw [fl.2.1] at q2; cases q2
  refine wpAny_Try_except (wpAny_mono ((hb _ (X.pn ++ pins) caught catches PassesOwn.looking).run [] s σ H D (I.toTry _) y) (fun f s1 q => ?_) (fun _ _ z => z))
  cases f with
  | next => obtain ⟨σ1, H1, J, q⟩ := q; exact wpAny_execs_nil ⟨σ1, H1, J.ofTry ok, q⟩
  | brk => obtain ⟨σ1, H1, J, q⟩ := q; exact ⟨σ1, H1, J.ofTry ok, q⟩
  | cont => obtain ⟨σ1, H1, J, q⟩ := q; exact ⟨σ1, H1, J.ofTry ok, q⟩
  | ret v => obtain ⟨v1, σ1, H1, J, r, q⟩ := q; exact ⟨v1, σ1, H1, J.ofTry ok, r, q⟩⟩
end
end Ky

set_option Elab.async false
set_option linter.all false
set_option maxRecDepth 100000
set_option maxHeartbeats 2000000
/-! the law's own: error, handed a kept lambda, called in a list comprehension's test. -/
namespace Ler
open PySem PySem.Spec PyProof.Rows L2 LamX NdefX Lm Lk Ky Dw
abbrev sErr : Stmt := topS 55
theorem scEr : FnScope ["work", "error", "caught"] ["work"] (defScope sErr) := ⟨rfl, rfl, rfl, by decide +kernel, rfl, by decide +kernel, by decide +kernel⟩
/-- how the error of a lambda that raises comes back -/
def Told (K : PySem.W.Frag) (PE : Addr) (Q : VK) : XK := fun cls d H' => PySem.W.exmOne K cls (.ref PE) = some true ∧ ∀ a, H' a = none → Q (.ref a) (upd H' a (exv a cls d))
section
variable {X : Cx} {k i : Nat} {q : Str} {J : Type} {params : J → Arguments} {body : J → Expr} {scope : J → Scope} {cl : J → List (Str × Addr)} {fr : List Str} {ws : List (Option V)} {sp : J → List (Option V) → Sp} {x : Str} {p1 p2 p3 : Pos} {g B0 : Addr} {gd : FuncData}
theorem pe_err (F : Fun X.K "_law_error" "_law_error" sErr g gd) (hm : X.mg "_law_error" = some (.ref g)) (hk : PySem.W.keepIn X.K (.ref g) = true) (bg : Binds X.K gd ["work"] []) (hg : Gl X "_law_error") (mP : X.mg "PageError" = some (.ref B0))
    (R : ∀ j, LRun X.prog X.w X.K X.mg X.base k q (params j) (body j) (scope j) (cl j) fr (sp j)) (mono : ∀ j H Q Q' E E', (∀ v H', Q v H' → Q' v H') → (∀ cls d H', E cls d H' → E' cls d H') → sp j ws [] H Q E → sp j ws [] H Q' E')
    (hr : Room (k + 1) X.A) (C : ∀ j, CellsAt (cl j) fr ws X.s_0.heap X.H_0) (far : ∀ j y c, (cl j).lookup y = some c → (c ∉ X.fs ∧ c ∉ X.ex) ∧ c ∉ frs X.stack) (hN : X.N[i]? = some x) (hv : Vis X.env.scope x) (hd : (x == ("__debug__" : Str)) = false := by decide) (hcd : (x == ("__classdict__" : Str)) = false := by decide) :
    PE X (.Call (.Name "_law_error" p1) [.Name x p2] [] p3) (fun σ H Q => ∃ j f c', σ[i]? = some (some (.ref f)) ∧ H f = some (LamO f q (params j) (body j) (scope j) (cl j) c') ∧ H c' = some (CodeO c' q) ∧ sp j ws [] H (fun _ H' => Q .non H') (Told X.K B0 Q)) := by
  refine ⟨fun pins s σ H Q I y => ?_⟩
  obtain ⟨j, f, c', hs, hf, hc, y⟩ := y
  obtain ⟨oc, od, kV, doc, pm, an, cdv, ct, osl, rfl, lk, hcode⟩ := F.ex
  have arg : PA X [.Name x p2] (tCons (tVar i) tNil) := pa_cons (pe_var (pos := p2) (i := i) hN hv hd hcd) pa_nil
  refine wpAny_Call_Name_kw (ld_glob I hg hm (PySem.W.callWith_K (h₀ := X.base) I.ok.mod.kin hk (thn (arg.run p3 pins s σ H (fun vs H1 => vs = [.ref f] ∧ H1 = H) I ⟨_, hs, rfl, rfl⟩) fun us s1 z => ?_) (by rfl) (by rfl)) (by decide))
  obtain ⟨vs, H1, I1, r, rfl, rfl⟩ := z
  have bind := bg s1 us I1.kIn (by rw [List.append_nil, ← Paired.length r]; rfl)
  rw [List.append_nil] at bind
  have C1 := (C j).later (fun y c e => (far j y c e).1.1) (fun y c e => (far j y c e).1.2) I1
  refine ⟨I1.kIn, wpAny_call (codeAny_mono (Lw.run_at (CX := CX0) (N := ["work", "error", "caught"]) (ps := ["work"]) (us := us) (vs := [.ref f]) (Q := Q) (E := E0) lk hcode scEr hr I1.env0 bind r rfl
    (PSs.nox (pss_cons (ps_set (i := 1) scEr.nd rfl (Or.inl rfl) pe_non) (pss_cons (ps_try_own (i := 2) (ts := tAsg (tVar 2) (gName 1)) rfl rfl scEr.nd rfl rfl ⟨by rfl, by decide, .inl mP⟩ rfl
      (fun W pn xe tk _ => pss_one (ps_expr (pe_work (i := 0) (R j) tk (hr.deeper _) C1 (fun y c e => ⟨(far j y c e).2, List.not_mem_nil⟩) rfl (Or.inl rfl)))) (fun a pn => pss_one (ps_set (i := 1) scEr.nd rfl (Or.inl rfl) (pv 2)))) (pss_one (ps_ret (pv 1)))))) ?_) fun res s2 hq => ?_)⟩
  · exact ⟨f, c', rfl, hf, hc, mono j _ _ _ _ _ (fun v H' hq => ⟨_, rfl, hq⟩) (fun cls d H' ht => ⟨ht.1, fun a na => ⟨_, rfl, _, rfl, ht.2 a na⟩⟩) y⟩
  · cases res with
    | error u => exact hq.elim
    | ok fl =>
      cases fl with
      | ret u => exact I1.after hq
      | next => exact hq.elim
      | brk => exact hq.elim
      | cont => exact hq.elim
end
end Ler

set_option Elab.async false
set_option linter.all false
set_option maxRecDepth 100000
set_option maxHeartbeats 2000000
/-! isinstance of a caught error that has no dict. -/
namespace Is
open PySem PySem.Spec PyProof.Rows L2 Sx Ky
def rIsN (K : PySem.W.Frag) : List V → Hp → VK → Prop := fun xs H Q => ∃ (a D : Addr) (c : V) (cv : Value) (b : Bool), xs = [.ref a, c] ∧ H a = some (exv a (.ref D) none) ∧ ExcC K D ∧ ClsV c cv ∧ PySem.W.kitOne K (.ref D) cv = some b ∧ Q (.bl b) H
theorem call_isN {X : Cx} : CallR X (.builtin "isinstance") (rIsN X.K) := by
  intro pins s σ H xs us Q I r h
  obtain ⟨a, D, c, cv, b, rfl, ke, C, k, e, q⟩ := h
  obtain ⟨u1, u2, rfl, r1, r2⟩ := vals2 r
  obtain rfl : u1 = Value.ref a := r1
  have e2 := k.eq r2
  subst e2
  obtain ⟨⟨o, vs, e1, e2, e3, e4⟩, _, _⟩ := (show ObjOk X.prog X.w H s.heap a (exv a (.ref D) none) from I.hok a _ ke)
  have J : PySem.W.InstAt s.heap a o D none := ⟨e1, e2, by unfold PySem.W.notCls; rw [e4], by rw [e3]; trivial⟩
  obtain ⟨cdD, hcD, _⟩ := PySem.W.any_some C.hd
  exact PySem.W.kia_one (PySem.W.kitx_exc (by rw [hcD]; rfl) C.hg C.hk C.hs C.ha C.hn C.ht C.hm) I.kIn J e (fun z => nomatch z) fun tk => ⟨.bl b, H, I.tok tk, rfl, q⟩
end Is

set_option Elab.async false
set_option linter.all false
set_option maxRecDepth 100000
set_option maxHeartbeats 2000000
/-! what the law's own run needs: shown histories, sizes of programs, what stands all along. -/
namespace Wl
open PySem PySem.Spec PyProof.Rows L2 Sx Rp Dw NdefX GxR Rw Th Kd Gx Nm Hs Pr Ps RZ Lw Lh Lp Lq Ez En An Ah La Lb Li Ln Lo Lr Sb Pa Pp Lz Oa Od Be Bw Lg Ll
/-! ### shown -/
theorem strlen_add (a b : Str) : (a ++ b).length = a.length + b.length := by
  show (a.cps ++ b.cps).size = _
  rw [Array.size_append]; rfl
theorem shown_all : ∀ l : List PyData, PyData.shownAll l = l.map PyData.shown
  | [] => rfl
  | d :: r => by simp [PyData.shownAll, shown_all r]
theorem piled_le {l : List PyData} {m : Nat} (h : ∀ d ∈ l, d.shown.length ≤ m) : piled (l.map PyData.shown) ≤ l.length * (m + 2) := by
  induction l with
  | nil => exact Nat.zero_le _
  | cons d r ih =>
    have a := ih fun x hx => h x (List.mem_cons_of_mem _ hx)
    have b := h d List.mem_cons_self
    rw [List.map_cons, piled_cons, List.length_cons, Nat.succ_mul]
    omega
theorem tup_shown {l : List PyData} {m : Nat} (h : ∀ d ∈ l, d.shown.length ≤ m) : (PyData.tuple l).shown.length ≤ l.length * (m + 2) + 3 := by
  have e : (PyData.tuple l).shown = tupleText (l.map PyData.shown) := by simp [PyData.shown, shown_all]
  rw [e]
  unfold tupleText
  rw [strlen_add, strlen_add]
  have p1 : (("(" : Str)).length = 1 := by decide +kernel
  have p2 : ((if (l.map PyData.shown).length == 1 then ",)" else ")" : String) : Str).length ≤ 2 := by
    split
    · decide +kernel
    · decide +kernel
  have j : (Str.join ", " (l.map PyData.shown)).length ≤ l.length * (m + 2) := by
    cases l with
    | nil => exact Nat.le_trans (show (Str.join (", " : Str) []).length ≤ 0 by decide +kernel) (Nat.zero_le _)
    | cons d r =>
      have a := join_length_add ((d :: r).map PyData.shown) (by simp)
      have b := piled_le h
      omega
  omega
theorem nam_shown {s : Str} (h : Nam s) : (PyData.str s).shown.length ≤ 32 := by
  have e : (PyData.str s).shown = reprText s := by simp [PyData.shown]
  rw [e]
  obtain ⟨z, rfl, hz, _⟩ := h.pl
  have a := PySem.StrLaws.reprText_len (⟨z.toArray⟩ : Str) (fun c hc => by have := hz c (by simpa using hc); omega)
  have b := h.sh
  have e2 : (⟨z.toArray⟩ : Str).length = z.length := len_arr z
  have b2 : z.length ≤ 3 := by simpa using b
  omega
theorem showable_all : ∀ l : List PyData, (∀ d ∈ l, d.showable = true) → PyData.showableAll l = true
  | [], _ => rfl
  | d :: r, h => by simp [PyData.showableAll, h d List.mem_cons_self, showable_all r fun x hx => h x (List.mem_cons_of_mem _ hx)]
theorem his_ok {ws : List Str} {es : List (Str × Nat)} (hw : ∀ s ∈ ws, Nam s) (he : ∀ e ∈ es, Nam e.1) (hl : ws.length ≤ 1000) : (PyData.tuple (hisD ws es)).showable = true ∧ (PyData.tuple (hisD ws es)).depth ≤ 64 ∧ (PyData.tuple (hisD ws es)).shown.length ≤ sizeLine := by
  have sh := his_shaped hw he
  refine ⟨?_, SeqAt.depth_of_shaped sh, ?_⟩
  · have := showable_all (hisD ws es) fun d hd => by
      obtain ⟨p, _, rfl⟩ := List.mem_map.mp hd
      simp [PyData.showable, PyData.showableAll]
    simpa [PyData.showable] using this
  · have a := tup_shown (l := hisD ws es) (m := 71) fun d hd => by
      obtain ⟨p, hp, rfl⟩ := List.mem_map.mp hd
      have h1 := nam_shown (hw _ (List.of_mem_zip hp).1)
      have h2 := nam_shown (he _ (List.of_mem_zip hp).2)
      refine Nat.le_trans (tup_shown (l := [.str p.1, .str p.2.1]) (m := 32) fun d hd => ?_) (by simp)
      rcases List.mem_cons.mp hd with rfl | hd
      · exact h1
      · rw [List.mem_singleton.mp hd]; exact h2
    have l : (hisD ws es).length ≤ 1000 := by unfold hisD; rw [List.length_map, List.length_zip]; omega
    have := Nat.mul_le_mul_right 73 l
    rw [sizeLine_eq]; omega
theorem ans_ok {es : List (Str × Nat)} (he : ∀ e ∈ es, Nam e.1) (hl : es.length ≤ 1000) : (PyData.tuple (ansD es)).showable = true ∧ (PyData.tuple (ansD es)).depth ≤ 64 ∧ (PyData.tuple (ansD es)).shown.length ≤ sizeLine := by
  have sh := ans_shaped he
  refine ⟨?_, SeqAt.depth_of_shaped sh, ?_⟩
  · have := showable_all (ansD es) fun d hd => by
      obtain ⟨p, _, rfl⟩ := List.mem_map.mp hd
      simp [PyData.showable]
    simpa [PyData.showable] using this
  · have a := tup_shown (l := ansD es) (m := 32) fun d hd => by
      obtain ⟨p, hp, rfl⟩ := List.mem_map.mp hd
      exact nam_shown (he _ hp)
    have l : (ansD es).length ≤ 1000 := by unfold ansD; rw [List.length_map]; omega
    have := Nat.mul_le_mul_right 34 l
    rw [sizeLine_eq]; omega
theorem dt_seq {H : Hp} : ∀ {xs : List V} {ds : List PyData}, xs.length = ds.length → (∀ (i : Nat) (v : V) (d : PyData), xs[i]? = some v → ds[i]? = some d → Dt H v d) → DtAll H xs ds
  | [], [], _, _ => .nil
  | [], _ :: _, l, _ => by simp at l
  | _ :: _, [], l, _ => by simp at l
  | x :: xs, d :: ds, l, e => .cons (e 0 x d rfl rfl) (dt_seq (by simpa using l) fun i v d a b => e (i + 1) v d a b)
theorem dt_his {H : Hp} {v : V} {ws : List Str} {es : List (Str × Nat)} (h : IsTh H v (hisTh ws es)) : ∃ a, v = .ref a ∧ Dt H (.ref a) (.tuple (hisD ws es)) := by
  obtain ⟨a, xs, rfl, ha, ee, _⟩ := th_tup h
  refine ⟨a, rfl, .tup ha (dt_seq (by rw [ee.1]; unfold hisD; simp) fun i v d h1 h2 => ?_)⟩
  unfold hisD at h2
  rw [List.getElem?_map] at h2
  obtain ⟨p, hp, rfl⟩ := Option.map_eq_some_iff.mp h2
  have h3 := ee.2 i v (.tup [sT p.1, sT p.2.1]) h1 (by rw [List.getElem?_map, hp]; rfl)
  obtain ⟨b, ys, rfl, hb, e2, _⟩ := th_tup h3
  match ys, e2.1 with
  | [y0, y1], _ =>
    have q0 := isTh_sT (e2.2 0 y0 _ rfl rfl)
    have q1 := isTh_sT (e2.2 1 y1 _ rfl rfl)
    subst q0; subst q1
    exact .tup hb (.cons (.str _) (.cons (.str _) .nil))
theorem dt_ans {H : Hp} {v : V} {es : List (Str × Nat)} (h : IsTh H v (ansTh es)) : ∃ a, v = .ref a ∧ Dt H (.ref a) (.tuple (ansD es)) := by
  obtain ⟨a, xs, rfl, ha, ee, _⟩ := th_tup h
  refine ⟨a, rfl, .tup ha (dt_seq (by rw [ee.1]; unfold ansD; simp) fun i v d h1 h2 => ?_)⟩
  unfold ansD at h2
  rw [List.getElem?_map] at h2
  obtain ⟨p, hp, rfl⟩ := Option.map_eq_some_iff.mp h2
  have h3 := isTh_sT (ee.2 i v (sT p.1) h1 (by rw [List.getElem?_map, hp]; rfl))
  subst h3
  exact .str _
/-! ### sizes of a drawn program -/
theorem szs_le {m : Nat} : ∀ {ts : List Th}, (∀ t ∈ ts, sz t ≤ m) → szs ts ≤ ts.length * m
  | [], _ => by rw [szs_nil]; exact Nat.zero_le _
  | t :: r, h => by
    have a := szs_le (ts := r) fun x hx => h x (List.mem_cons_of_mem _ hx)
    have b := h t List.mem_cons_self
    rw [szs_cons, List.length_cons, Nat.succ_mul]; omega
theorem call_sz {c : Th} (h : callT c = true) : sz c ≤ 9 ∧ ∃ s ns, c = cT s ns := by
  unfold callT at h
  simp only [Bool.and_eq_true] at h
  obtain ⟨z, ts, rfl, lts, e⟩ := told_ex (n := 3) h.1
  match ts, lts with
  | [t1, t2], _ =>
    have h1 : nameT t1 = true := h.2.1
    have h2 : namesT 5 t2 = true := h.2.2
    obtain ⟨z1, rfl⟩ := name_str h1
    cases t2 with
    | tup us =>
      have hl : us.length ≤ 5 := by
        unfold namesT at h2
        simp only [Bool.and_eq_true, decide_eq_true_eq] at h2
        exact h2.1.2
      have all1 := names_all h2
      have a := szs_le (m := 1) (ts := us) fun t ht => by obtain ⟨w, rfl⟩ := all1 t ht; simp [sz]
      refine ⟨by simp [sz, szs] at a ⊢; omega, ⟨z1.toArray⟩, strsOf us, ?_⟩
      have e1 : sT "call" = .str z := by
        show Th.str (Str.ofString "call").cps.toList = _
        rw [← e]
      have e2 : (strsOf us).map sT = us := by
        unfold strsOf
        rw [List.map_map]
        conv => rhs; rw [← List.map_id us]
        refine List.map_congr_left fun t ht => ?_
        obtain ⟨w, rfl⟩ := all1 t ht
        rfl
      unfold cT
      rw [e1, e2]
      rfl
    | _ => cases h2
theorem cT_sz (s : Str) (ns : List Str) : sz (cT s ns) = ns.length + 4 := by
  have a : ∀ l : List Str, szs (l.map sT) = l.length := by
    intro l
    induction l with
    | nil => exact szs_nil
    | cons x r ih => rw [List.map_cons, szs_cons, sz_sT, ih, List.length_cons]; omega
  unfold cT
  simp only [sz_tup, szs_cons, szs_nil, sz_sT, a]
  omega
theorem house_sz {h : Th} (D : HouseD h) : sz h ≤ 24 ∧ lf 100 h = true := by
  have H := D.ok
  have hP := house_p H
  obtain ⟨z, ts, rfl, lts, e⟩ := told_ex (n := 2) hP.told
  match ts, lts with
  | [t1], _ =>
    have e1 := hP.tup
    have e2 := hP.calls
    have e4 := hP.len
    cases t1 with
    | tup cs =>
      have e2' : cs.all callT = true := e2
      have e4' : cs.length ≤ 5 := e4
      have all9 := List.all_eq_true.mp e2'
      have few : cs.length ≤ 3 := D.few
      have a := szs_le (m := 7) (ts := cs) fun c hc => by
        obtain ⟨_, s, ns, rfl⟩ := call_sz (all9 c hc)
        have m2 : ns ∈ ansOf (.tup [.str z, .tup cs]) := by
          show ns ∈ cs.map fun c => strsOf (items (Hs.nth 2 c))
          refine List.mem_map.mpr ⟨_, hc, ?_⟩
          show strsOf (ns.map sT) = ns
          exact strsOf_sT ns
        have := (D.ans ns m2).2.1
        rw [cT_sz]; omega
      have b : cs.length * 7 ≤ 21 := by omega
      refine ⟨by simp [sz, szs]; omega, ?_⟩
      have ez : z.length ≤ 100 := by
        have : (⟨z.toArray⟩ : Str).cps.toList = (Str.ofString "house").cps.toList := by rw [e]
        have h5 : (Str.ofString "house").cps.toList.length ≤ 100 := by decide +kernel
        rw [← this] at h5
        exact h5
      have hcs : ∀ c ∈ cs, lf 100 c = true := fun c hc => by
        obtain ⟨_, s, ns, rfl⟩ := call_sz (all9 c hc)
        have m1 : s ∈ Pr.namesOf (.tup [.str z, .tup cs]) := by
          show s ∈ strsOf (cs.map (Hs.nth 1))
          unfold strsOf
          refine List.mem_map.mpr ⟨sT s, List.mem_map.mpr ⟨_, hc, rfl⟩, sT_arr s⟩
        have m2 : ns ∈ ansOf (.tup [.str z, .tup cs]) := by
          show ns ∈ cs.map fun c => strsOf (items (Hs.nth 2 c))
          refine List.mem_map.mpr ⟨_, hc, ?_⟩
          show strsOf (ns.map sT) = ns
          exact strsOf_sT ns
        have q1 := (D.nam s m1).sh
        have q2 := (D.ans ns m2).2.2
        have c1 : lf 100 (sT "call") = true := lf_sT (by decide +kernel)
        have c2 : lf 100 (sT s) = true := lf_sT (by omega)
        have c3 : lf 100 (.tup (ns.map sT)) = true := by
          rw [lf_tup, lfs_all]
          refine List.all_eq_true.mpr fun t ht => ?_
          obtain ⟨x, hx, rfl⟩ := List.mem_map.mp ht
          exact lf_sT (by have := (q2 x hx).sh; omega)
        unfold cT
        rw [lf_tup]
        simp [lfs, c1, c2, c3]
      have c3 : lf 100 (.tup cs) = true := by rw [lf_tup, lfs_all]; exact List.all_eq_true.mpr hcs
      have c1 : lf 100 (.str z) = true := by simp only [lf]; exact decide_eq_true ez
      rw [lf_tup]
      simp [lfs, c1, c3]
    | _ => cases e1
theorem prog_sz {h : Th} {rows : List (List (Str × Nat))} (D : ProgD h rows) (hr : rows.length ≤ 4) : sz (pT h rows) ≤ 69 ∧ lf 100 (pT h rows) = true := by
  obtain ⟨s1, s2⟩ := house_sz D.house
  have hl5 : (ansOf h).length ≤ 3 := by
    unfold ansOf
    rw [List.length_map]
    exact D.house.few
  have rw_ : ∀ r ∈ rows, sz (rowTh r) ≤ 10 ∧ lf 100 (rowTh r) = true := fun r hr' => by
    have R := D.rows r hr'
    have en3 : ∀ e ∈ r, sz (enT e) ≤ 3 ∧ lf 100 (enT e) = true := fun e he => by
      obtain ⟨i, hi⟩ := List.mem_iff_getElem?.mp he
      have hi2 := (List.getElem?_eq_some_iff.mp hi).1
      obtain ⟨ns, hns⟩ : ∃ ns, (ansOf h)[i]? = some ns := ⟨_, List.getElem?_eq_getElem (by rw [← R.len]; exact hi2)⟩
      obtain ⟨q1, q2⟩ := R.en i e ns hi hns
      have n1 := ((D.house.ans ns (List.mem_of_getElem? hns)).2.2 _ q1).sh
      have c1 : lf 100 (sT e.1) = true := lf_sT (by omega)
      have c2 : lf 100 (.int (e.2 : Int)) = true := by simp only [lf]; exact decide_eq_true (by omega)
      unfold enT
      refine ⟨by simp [sz, szs, sz_sT], ?_⟩
      rw [lf_tup]
      simp [lfs, c1, c2]
    have a := szs_le (m := 3) (ts := r.map enT) fun t ht => by
      obtain ⟨e, he, rfl⟩ := List.mem_map.mp ht
      exact (en3 e he).1
    have l5 : r.length ≤ 3 := by rw [R.len]; exact hl5
    rw [List.length_map] at a
    unfold rowTh
    refine ⟨by rw [sz_tup]; omega, ?_⟩
    rw [lf_tup, lfs_all]
    refine List.all_eq_true.mpr fun t ht => ?_
    obtain ⟨e, he, rfl⟩ := List.mem_map.mp ht
    exact (en3 e he).2
  have a := szs_le (m := 10) (ts := rows.map rowTh) fun t ht => by
    obtain ⟨r, hr', rfl⟩ := List.mem_map.mp ht
    exact (rw_ r hr').1
  rw [List.length_map] at a
  have c1 : lf 100 (sT "program") = true := lf_sT (by decide +kernel)
  have c3 : lf 100 (.tup (rows.map rowTh)) = true := by
    rw [lf_tup, lfs_all]
    refine List.all_eq_true.mpr fun t ht => ?_
    obtain ⟨r, hr', rfl⟩ := List.mem_map.mp ht
    exact (rw_ r hr').2
  unfold pT
  refine ⟨by simp [sz, szs, sz_sT]; omega, ?_⟩
  rw [lf_tup]
  simp [lfs, c1, s2, c3]
end Wl

set_option Elab.async false
set_option linter.all false
set_option maxRecDepth 100000
set_option maxHeartbeats 2000000
/-! what stands all along in the law's own run; the lambdas' promises. -/
namespace Ww
open PySem PySem.Spec PyProof.Rows L2 Sx Rp Dw NdefX GxR Rw Th Kd Gx Nm Hs Pr Ps RZ Lw Lh Lp Lq Ez En An Ah La Lb Li Ln Lo Lr Sb Pa Pp Lz Oa Od Be Bw Lg Ll Wl Lm Lk
/-- tables, the law's own table, the draws -/
structure Ws (T : List Addr) (PL : Addr) (q : Str) (d wp cp : Addr) (n : Nat) (G : Hp) : Prop where
  tb : Th.Tabs T G
  tl : LamX.TabS G PL q
  dr : Dr G d wp cp n
/-- all else stands -/
def St (T : List Addr) (PL d wp : Addr) (H G : Hp) : Prop := ∀ b o, b ≠ d → b ≠ wp → b ≠ PL → b ∉ T → H b = some o → G b = some o
theorem St.refl {T : List Addr} {PL d wp : Addr} {H : Hp} : St T PL d wp H H := fun _ _ _ _ _ _ e => e
theorem St.trans {T : List Addr} {PL d wp : Addr} {H1 H2 H3 : Hp} (a : St T PL d wp H1 H2) (b : St T PL d wp H2 H3) : St T PL d wp H1 H3 := fun x o h1 h2 h3 h4 e => b x o h1 h2 h3 h4 (a x o h1 h2 h3 h4 e)
section
variable {T : List Addr} {PL d wp cp : Addr} {q : Str} {n m : Nat} {H G : Hp}
theorem Ws.ne (W : Ws T PL q d wp cp n H) {b : Addr} {o : HO} (e : H b = some o) (h1 : ∀ kvs, o ≠ .dK kvs) (h2 : ∀ xs, o ≠ .lst xs) (h3 : ∀ ps, o ≠ .tbl ps) : b ≠ d ∧ b ≠ wp ∧ b ≠ PL ∧ b ∉ T := by
  obtain ⟨ws, cs, r, t, a, _⟩ := W.dr
  obtain ⟨ps, eP, _⟩ := W.tl
  refine ⟨fun y => ?_, fun y => ?_, fun y => ?_, W.tb.ne e h3⟩
  · rw [y, a.dc] at e; exact h1 _ (Option.some.inj e).symm
  · rw [y, a.wl] at e; exact h2 _ (Option.some.inj e).symm
  · rw [y, eP] at e; exact h3 _ (Option.some.inj e).symm
theorem Ws.st_ext (W : Ws T PL q d wp cp n H) (k : St T PL d wp H G) {b : Addr} {φ : Heap → Prop} (e : H b = some (.ext φ)) : G b = some (.ext φ) := by
  obtain ⟨a1, a2, a3, a4⟩ := W.ne e (fun _ y => by cases y) (fun _ y => by cases y) (fun _ y => by cases y)
  exact k b _ a1 a2 a3 a4 e
theorem Ws.soft (W : Ws T PL q d wp cp n H) (W' : Ws T PL q d wp cp m G) (k : St T PL d wp H G) : Soft H G := by
  obtain ⟨ws, cs, r, t, a, _⟩ := W.dr
  obtain ⟨ws', cs', r', t', a', _⟩ := W'.dr
  obtain ⟨ps, eP, _⟩ := W.tl
  refine ⟨fun b xs e => ?_, fun b xs e => ?_, fun b xs e => ?_⟩
  · obtain ⟨a1, a2, a3, a4⟩ := W.ne e (fun _ y => by cases y) (fun _ y => by cases y) (fun _ y => by cases y)
    exact k b _ a1 a2 a3 a4 e
  · by_cases y : b = wp
    · rw [y]; exact ⟨_, a'.wl⟩
    · exact ⟨xs, k b _ (fun z => by rw [z, a.dc] at e; cases e) y (fun z => by rw [z, eP] at e; cases e) (W.tb.ne e fun _ z => by cases z) e⟩
  · by_cases y : b = d
    · rw [y]; exact ⟨_, a'.dc⟩
    · exact ⟨xs, k b _ y (fun z => by rw [z, a.wl] at e; cases e) (fun z => by rw [z, eP] at e; cases e) (W.tb.ne e fun _ z => by cases z) e⟩
theorem tabS_keep {H G : Hp} {PL : Addr} {q : Str} (t : LamX.TabS H PL q) (k : ∀ ps, H PL = some (.tbl ps) → G PL = some (.tbl ps)) (k2 : ∀ c, H c = some (LamX.CodeO c q) → G c = some (LamX.CodeO c q)) : LamX.TabS G PL q := by
  obtain ⟨ps, h1, h2, h3⟩ := t
  refine ⟨ps, k ps h1, h2, fun pos cv hc => ?_⟩
  obtain ⟨c, e1, e2⟩ := h3 pos cv hc
  exact ⟨c, e1, k2 c e2⟩
theorem Ws.kp (W : Ws T PL q d wp cp n H) (k : Kp H G) : Ws T PL q d wp cp n G ∧ St T PL d wp H G :=
  ⟨⟨W.tb.keep k, tabS_keep W.tl (fun _ e => k _ _ e) (fun _ e => k _ _ e), dr_same k W.dr⟩, fun b o _ _ _ _ e => k b o e⟩
theorem Ws.le (W : Ws T PL q d wp cp n H) (h : m ≤ n) : Ws T PL q d wp cp m H := ⟨W.tb, W.tl, dr_le h W.dr⟩
theorem Ws.go (W : Ws T PL q d wp cp n H) (hT : PL ∉ T) (g : Go T H G) : Ws T PL q d wp cp n G ∧ St T PL d wp H G :=
  ⟨⟨g.tb, tabS_keep W.tl (fun _ e => g.fr _ _ hT e) (fun c e => g.fr _ _ (W.tb.ne e (fun ps y => LamX.codeO_ne ps y)) e), dr_go W.tb g W.dr⟩, fun b o _ _ _ n e => g.fr b o n e⟩
theorem Ws.but (W : Ws T PL q d wp cp n H) (B : But d wp H G) (D : Dr G d wp cp m) : Ws T PL q d wp cp m G ∧ St T PL d wp H G := by
  refine ⟨⟨tabs_but W.tb W.dr B, ?_, D⟩, fun b o h1 h2 _ _ e => B b o e h1 h2⟩
  obtain ⟨ws, cs, r, t, a, _⟩ := W.dr
  refine tabS_keep W.tl (fun ps e => B _ _ e (fun y => by rw [y, a.dc] at e; cases e) (fun y => by rw [y, a.wl] at e; cases e)) (fun c e => B _ _ e (fun y => ?_) (fun y => ?_))
  · rw [y, a.dc] at e; unfold LamX.CodeO at e; cases e
  · rw [y, a.wl] at e; unfold LamX.CodeO at e; cases e
theorem Ws.lam (W : Ws T PL q d wp cp n H) (hT : PL ∉ T) (k : ∀ b o, b ≠ PL → H b = some o → G b = some o) (t : LamX.TabS G PL q) : Ws T PL q d wp cp n G ∧ St T PL d wp H G := by
  obtain ⟨ps, eP, _⟩ := W.tl
  obtain ⟨ws, cs, r, u, a, b⟩ := W.dr
  have n1 : d ≠ PL := fun y => by rw [← y, a.dc] at eP; cases eP
  have n2 : wp ≠ PL := fun y => by rw [← y, a.wl] at eP; cases eP
  have n3 : cp ≠ PL := fun y => by rw [← y, a.cl] at eP; cases eP
  refine ⟨⟨fun c hc => ?_, t, ws, cs, r, u, ⟨k _ _ n1 a.dc, k _ _ n2 a.wl, k _ _ n3 a.cl, a.cb, a.cn, a.wn, a.t0, a.nwc⟩, b⟩, fun b o _ _ h _ e => k b o h e⟩
  obtain ⟨p2, q1, q2⟩ := W.tb c hc
  exact ⟨p2, k _ _ (fun y => hT (y ▸ hc)) q1, q2⟩
end
/-! ### the lambdas -/
section
variable {P : Program} {w : World} {K : PySem.W.Frag} {mg : Str → Option Value} {base : Heap}
/-- lambda: fn(a, b) -/
theorem lrun_call {fn a b : Str} {pf pa pb pos : Pos} {q : Str} {params : Arguments} {scope : Scope} {cl : List (Str × Addr)} {kk : Nat} {f : Addr} {fd : FuncData} {sp : Sp} (G : FnOk P w K mg base (L2.CX P w) kk f fd ["program", "word"] sp) (mG : mg fn = some (.ref f)) (kG : PySem.W.keepIn K (.ref f) = true) (bG : Binds K fd ["program", "word"] [])
    (S : NdefX.NScope [a, b] [] [a, b] scope) (hb : ∀ (pm ctv : Value) (c' : Addr), bindArgs (PySem.W.kla_fn "<lambda>" q params (.Call (.Name fn pf) [.Name a pa, .Name b pb] [] pos) scope cl pm (.ref c') ctv) ⟨[], []⟩ = pure []) (hg : scope.names.lookup fn = some .globalImplicit) (hd : (fn == ("__debug__" : Str)) = false)
    (hda : (a == ("__debug__" : Str)) = false) (hca : (a == ("__classdict__" : Str)) = false) (hdb : (b == ("__debug__" : Str)) = false) (hcb : (b == ("__classdict__" : Str)) = false) :
    LRun P w K mg base (kk + 1) q params (.Call (.Name fn pf) [.Name a pa, .Name b pb] [] pos) scope cl [a, b] (fun ws vs H Q E => ∃ x y, ws = [some x, some y] ∧ vs = [] ∧ sp [x, y] H Q E) := by
  refine lrun_of (N := [a, b]) S hb fun g c' A outer s H ws Q E hr hl y => ?_
  obtain ⟨x, z, rfl, _, y⟩ := y
  have fa := S.frk a (by simp)
  have fb := S.frk b (by simp)
  refine ⟨_, pe_callS (E := WE fun cls d _ H' => E cls d H') G hr hg mG kG bG (passAt (takes_of rfl rfl rfl rfl)) (pa_cons (pe_var (i := 0) rfl (Or.inr (Or.inr fa)) hda hca) (pa_cons (pe_var (i := 1) rfl (Or.inr (Or.inr fb)) hdb hcb) pa_nil)) hd, ?_⟩
  exact ⟨_, rfl, _, rfl, y⟩
end
end Ww

set_option Elab.async false
set_option linter.all false
set_option maxRecDepth 100000
set_option maxHeartbeats 2000000
/-! calls by keywords alone; where a frame's cells lie. -/
namespace Kw
open PySem PySem.Spec PyProof.Rows L2 NdefX
section
variable {X : Cx} {CX : CXT} {x : Str} {f : Addr} {k : Nat} {fd : FuncData} {ps ks : List Str} {sp : Sp} {E : XK} {kws : List Keyword} {tk : TA} {p pos : Pos} {g : List Value → List Value → List Value} {gV : List V → List V → List V}
theorem pe_kw0 (F : FnOk X.prog X.w X.K X.mg X.base CX k f fd ps sp) (hr : Room k X.A) (hg : Gl X x) (hm : X.mg x = some (.ref f)) (hk : PySem.W.keepIn X.K (.ref f) = true) (hb : KBinds X.K fd ps ks g gV) (hx : Passes CX X E) (hkw : PK X kws tk)
    (hall : (backToKw pos (keywordEach kws X.env)).all (·.1.isSome) = true := by rfl) (hks : (backToKw pos (keywordEach kws X.env)).filterMap (·.1) = ks := by rfl) (hdb : (x == ("__debug__" : Str)) = false := by decide)
    (hpl : ((backTo pos (starEach [] X.env)).any (·.1) || (backToKw pos (keywordEach kws X.env)).any (·.1.isNone)) = false := by rfl) : PE X (.Call (.Name x p) [] kws pos) (fun σ H Q => tk σ H fun zs H2 => sp (gV [] zs) H2 Q E) := ⟨fun pins s σ H Q I y => by
  refine wpAny_Call_Name_kw (ld_glob I hg hm (PySem.W.callWith_KW0 (h₀ := X.base) I.ok.mod.kin hk hall (thn (hkw.run pos pins s σ H _ I y) fun ws s2 q => ?_) hpl) hdb)
  obtain ⟨zs, H2, I2, rz, q⟩ := q
  refine ⟨I2.kIn, ?_⟩
  rw [hks]
  exact run_fnk (us := []) (vs := []) F hr hb hx I2 .nil rz q⟩
end
theorem vals_rev : ∀ {vs : List V} {us : List Value}, Vals vs us → Vals vs.reverse us.reverse := fun r => by
  induction r with
  | nil => exact .nil
  | cons h _ ih =>
    rw [List.reverse_cons, List.reverse_cons]
    exact ih.append (.cons h .nil)
section
variable {X : Cx} {pins : List (Addr × Obj)} {σ : L2.St} {H : Hp} {s : Shared}
theorem cell_far (I : Inv X pins σ H s) {y : Str} {c : Addr} (e : X.env.cells.lookup y = some c) : c ≠ X.env.locals := fun z => by
  obtain ⟨v, o, ho, hd⟩ := I.cell y c e
  obtain ⟨m, ⟨o', es, ep, e', d, _⟩, _⟩ := I.loc
  rw [z, e'] at ho
  cases ho
  rw [d] at hd; cases hd
end
end Kw

set_option Elab.async false
set_option linter.all false
set_option maxRecDepth 100000
set_option maxHeartbeats 8000000
/-! The law's own def. -/
namespace Ly
open PySem PySem.Spec PyProof.Rows L2 Sx Rp Dw NdefX GxR Rw Th Kd Gx Nm Hs Pr Ps RZ Lw Lh Lp Lq Ez En An Ah La Lb Li Ln Lo Lr Sb Pa Pp Lz Oa Od Be Bw Lg Ll Wl Lm Lk Ler Is Cf Ww Kw Ky
abbrev sLaw : Stmt := topS 58
abbrev NL : List Str := ["script", "draw", "turn", "house", "lap", "word", "due", "works", "program", "strange", "thing", "step", "work"]
theorem scLaw : FnScope NL ["script"] (defScope sLaw) := ⟨rfl, rfl, rfl, by decide +kernel, rfl, by decide +kernel, by decide +kernel⟩
def passS : Stmt := .Pass ⟨0, 0, 0, 0⟩
def bodyFor : List Stmt := match (defBody sLaw).getD 2 passS with | .For _ _ b _ _ => b | _ => []
def bodyIf : List Stmt := match bodyFor.getD 11 passS with | .If _ b _ _ => b | _ => []
def lamOf : Stmt → Expr | .Assign _ (.List [e] _) _ => e | .Expr (.Call _ [e] _ _) _ => e | _ => .Constant .none 0 ⟨0, 0, 0, 0⟩
def lam1 : Fin 3 → Expr | 0 => lamOf (bodyFor.getD 7 passS) | 1 => lamOf (bodyFor.getD 8 passS) | 2 => lamOf (bodyFor.getD 9 passS)
def lam2 : Fin 3 → Expr | 0 => lamOf (bodyIf.getD 0 passS) | 1 => lamOf (bodyIf.getD 1 passS) | 2 => lamOf (bodyIf.getD 2 passS)
def lPar : Expr → Arguments | .Lambda a _ _ _ => a | _ => defArgs sLaw
def lBody : Expr → Expr | .Lambda _ b _ _ => b | e => e
def lScope : Expr → Scope | .Lambda _ _ sc _ => sc | _ => defScope sLaw
structure DefOk (P : Program) (w : World) (K : PySem.W.Frag) (mg : Str → Option Value) (base : Heap) (x : Str) (k : Nat) (ps : List Str) (sp : Sp) : Prop where
  ex : ∃ f fd, mg x = some (.ref f) ∧ PySem.W.keepIn K (.ref f) = true ∧ FnOk P w K mg base CX0 k f fd ps sp ∧ Binds K fd ps []
structure DefX (P : Program) (w : World) (K : PySem.W.Frag) (mg : Str → Option Value) (base : Heap) (x : Str) (k : Nat) (sp : Sp) : Prop where
  ex : ∃ f fd, mg x = some (.ref f) ∧ PySem.W.keepIn K (.ref f) = true ∧ FnOk P w K mg base (L2.CX P w) k f fd ["program", "word"] sp ∧ Binds K fd ["program", "word"] [] ∧ KBinds K fd ["program", "word"] ["word", "program"] (fun us ws => us ++ ws.reverse) (fun vs zs => vs ++ zs.reverse)
def qL : Str := (envOfC "law" (defScope sLaw) 0 0 .none).qual ++ "<lambda>"
def TErr (K : PySem.W.Frag) (B0 : Addr) (i : Nat) {J : Type} (params : J → Arguments) (body : J → Expr) (scope : J → Scope) (cl : J → List (Str × Addr)) (sp : J → List (Option V) → Sp) (ws : List (Option V)) : TE :=
  fun σ H Q => ∃ j f c', σ[i]? = some (some (.ref f)) ∧ H f = some (LamO f qL (params j) (body j) (scope j) (cl j) c') ∧ H c' = some (LamX.CodeO c' qL) ∧ sp j ws [] H (fun _ H' => Q .non H') (Told K B0 Q)
def tTest2 (K : PySem.W.Frag) (B0 CW : Addr) (i : Nat) {J : Type} (params : J → Arguments) (body : J → Expr) (scope : J → Scope) (cl : J → List (Str × Addr)) (sp : J → List (Option V) → Sp) (ws : List (Option V)) : TT :=
  tNot (tB (tCB (rIsN K) (tCons (TErr K B0 i params body scope cl sp ws) (tCons (tC (.ref CW)) tNil))))
/-- what the lambdas of a group promise -/
def spG (T : List Addr) (CP CW : Addr) (j : Fin 3) : List (Option V) → Sp := fun ws vs H Q E => ∃ x y, ws = [some x, some y] ∧ vs = [] ∧ (match j with | 0 => spHis T CP CW | 1 => spAns T CP CW | 2 => spSb T CP CW) [x, y] H Q E
def cellsL (L : Nat) (fa c : Addr) : List (Str × Addr) := (envOfC "law" (defScope sLaw) L fa (.ref c)).cells
def clG (lam : Fin 3 → Expr) (L : Nat) (fa c : Addr) (j : Fin 3) : List (Str × Addr) := cloFrom (cellsL L fa c) (lScope (lam j)).names []
theorem asked_mono {T : List Addr} {CP CW : Addr} {H : Hp} {E E' : XK} {pv' wv : V} {ok ok' : Th → List (List (Str × Nat)) → List Str → Prop} (hE : ∀ cls d H', E cls d H' → E' cls d H') (hok : ∀ h rows ws, ok h rows ws → ok' h rows ws) (h : Asked T CP CW H E pv' wv ok) : Asked T CP CW H E' pv' wv ok' := by
  rcases h with ⟨p, t, h1, h2, h3⟩ | ⟨h, rows, wp, ws, h1, h2, h3, h4, h5, h6, h7⟩
  · refine .inl ⟨p, t, h1, h2, ?_⟩
    rcases h3 with ⟨a, b⟩ | ⟨a, b, c⟩
    · exact .inl ⟨a, fun H' g => hE _ _ _ (b H' g)⟩
    · exact .inr ⟨a, b, fun H' g => hE _ _ _ (c H' g)⟩
  · exact .inr ⟨h, rows, wp, ws, h1, h2, h3, h4, h5, h6, hok _ _ _ h7⟩
theorem spG_mono {T : List Addr} {CP CW : Addr} (j : Fin 3) {ws : List (Option V)} (H : Hp) (Q Q' : VK) (E E' : XK) (hQ : ∀ v H', Q v H' → Q' v H') (hE : ∀ cls d H', E cls d H' → E' cls d H') (h : spG T CP CW j ws [] H Q E) : spG T CP CW j ws [] H Q' E' := by
  obtain ⟨x, y, e1, e2, h⟩ := h
  refine ⟨x, y, e1, e2, ?_⟩
  match j, h with
  | 0, h =>
    obtain ⟨pv', wv, e, tb, q⟩ := h
    exact ⟨pv', wv, e, tb, asked_mono hE (fun h rows ws z v H' g hv => hQ _ _ (z v H' g hv)) q⟩
  | 1, h =>
    obtain ⟨pv', wv, e, tb, q⟩ := h
    exact ⟨pv', wv, e, tb, asked_mono hE (fun h rows ws z v H' g hv => hQ _ _ (z v H' g hv)) q⟩
  | 2, h =>
    obtain ⟨pv', wv, e, tb, q⟩ := h
    exact ⟨pv', wv, e, tb, asked_mono hE (fun h rows ws z H' g => hQ _ _ (z H' g)) q⟩
/-- what is known of the lambdas' cells where the comprehension's block begins -/
def PhiG (lam : Fin 3 → Expr) (fr : List Str) (L fa c : Addr) (ω : List (Option V)) (s : Shared) (H : Hp) : Prop := ∀ j, CellsAt (clG lam L fa c j) fr ω s.heap H ∧ ∀ y b, (clG lam L fa c j).lookup y = some b → (cellsL L fa c).lookup y = some b ∧ b ≠ L
end Ly

set_option Elab.async false
set_option linter.all false
set_option maxRecDepth 100000
set_option maxHeartbeats 4000000
/-! parts of the law's own run. -/
namespace Ly
open PySem PySem.Spec PyProof.Rows L2 Sx Rp Dw NdefX GxR Rw Th Kd Gx Nm Hs Pr Ps RZ Lw Lh Lp Lq Ez En An Ah La Lb Li Ln Lo Lr Sb Pa Pp Lz Oa Od Be Bw Lg Ll Wl Lm Lk Ler Is Cf Ww Kw Ky
theorem isTh_ans {H : Hp} {p : Addr} {vs : List V} {es : List (Str × Nat)} (h : H p = some (.tup vs)) (l : vs.length = es.length) (hl : es.length ≤ 1000) (hv : ∀ (j : Nat) (v : V) (e : Str × Nat), vs[j]? = some v → es[j]? = some e → v = .str e.1) (hn : ∀ e ∈ es, Nam e.1) : IsTh H (.ref p) (ansTh es) := by
  refine Eth.th ⟨by rw [l, List.length_map], fun i v t h1 h2 => ?_⟩ h (by rw [List.length_map]; omega)
  rw [List.getElem?_map] at h2
  obtain ⟨e, he, rfl⟩ := Option.map_eq_some_iff.mp h2
  rw [hv i v e h1 he]
  exact isTh_str (hn e (List.mem_of_getElem? he))
/-- tuple([step[1] for step in due]) -/
theorem step_lc {K : PySem.W.Frag} {s0 s1 s2 s3 s4 s5 s7 s8 s9 s10 : Option V} {a2 : Addr} {G : Hp} {Q : VK} {ws : List Str} {es : List (Str × Nat)} (h : IsTh G (.ref a2) (hisTh ws es)) (l : es.length = ws.length) (hl : ws.length ≤ 1000) (hn : ∀ e ∈ es, Nam e.1)
    (k : ∀ v G', Kp G G' → IsTh G' v (ansTh es) → Q v G') : tCB (rTupOf K) (tCons (tLc (iTup K (tVar 6)) (gName 11) tYes (tOp (rIxT K) (tVar 11) (tC (.int 1))) [11]) tNil) [s0, s1, s2, s3, s4, s5, some (.ref a2), s7, s8, s9, s10, none, none] G Q := by
  obtain ⟨_, xs, e0, ha, ee, _⟩ := th_tup h
  cases e0
  have lx : xs.length = es.length := by rw [ee.1, List.length_map, List.length_zip, l]; omega
  refine ⟨_, rfl, _, rfl, ⟨xs, SqT.of ha⟩, fun D nD => ?_⟩
  refine lc_tup (K := K) (a := _) (xs := xs) (fun i G2 => ∃ vs, G2 D = some (.lst vs) ∧ vs.length = i ∧ (∀ (j : Nat) (v : V) (e : Str × Nat), vs[j]? = some v → es[j]? = some e → v = .str e.1) ∧ Kp G G2) ⟨[], upd_same, rfl, fun j v e h => by simp at h, Kp.refl.new nD⟩ (fun i G2 _ hI => ?_) (fun i x G2 hx hI => ?_) (fun G2 hI => ?_)
  · obtain ⟨_, _, _, _, kG⟩ := hI
    exact SqT.of (kG _ _ ha)
  · obtain ⟨vs, hD, lv, hv, kG⟩ := hI
    have hi : i < es.length := by rw [← lx]; exact (List.getElem?_eq_some_iff.mp hx).1
    obtain ⟨e, he⟩ : ∃ e, es[i]? = some e := ⟨_, List.getElem?_eq_getElem hi⟩
    obtain ⟨c, hc⟩ : ∃ c, ws[i]? = some c := ⟨_, List.getElem?_eq_getElem (by rw [← l]; exact hi)⟩
    have hth := kG.th (ee.2 i x (.tup [sT c, sT e.1]) hx (by rw [List.getElem?_map, (List.getElem?_zip_eq_some (z := (c, e))).mpr ⟨hc, he⟩]; rfl))
    obtain ⟨b, ys, rfl, hb, e2, _⟩ := th_tup hth
    match ys, e2.1, hb, e2 with
    | [y0, y1], _, hb, e2 =>
      have q1 := isTh_sT (e2.2 1 y1 _ rfl rfl)
      subst q1
      refine ⟨rfl, _, rfl, b, _, _, _, rfl, rfl, SqT.of hb, at1, vs, hD, by rw [lv, sizeLine_eq]; omega, vs ++ [.str e.1], upd_same, by rw [List.length_append, lv]; rfl, fun j v e' h1 h2 => ?_, kG.put nD⟩
      by_cases hlt : j < vs.length
      · rw [List.getElem?_append_left hlt] at h1
        exact hv j v e' h1 h2
      · have hj' := (List.getElem?_eq_some_iff.mp h1).1
        rw [List.length_append, List.length_singleton] at hj'
        have : j = i := by omega
        subst this
        rw [List.getElem?_append_right (by omega), lv, Nat.sub_self] at h1
        rw [he] at h2
        cases h1; cases h2; rfl
  · obtain ⟨vs, hD, lv, hv, kG⟩ := hI
    refine ⟨D, _, rfl, .inl ⟨SqL.of hD, fun p np => k _ _ (kG.new np) (isTh_ans upd_same (by rw [lv, lx]) (by omega) hv hn)⟩⟩
/-- a thing bent once or twice -/
theorem thing_te {K : PySem.W.Frag} {rg : R2} (hrg : ∀ i j H Q, Q (.bl (decide (j < i))) H → rg (.int i) (.int j) H Q) {s0 s2 s4 s5 s6 s7 s9 s10 s11 s12 : Option V} {d wp cp pp : Addr} {hv : V} {n : Nat} {h : Th} {rows : List (List (Str × Nat))} {G : Hp} {Q : VK} (hh : IsTh G hv h) (hp : IsTh G (.ref pp) (pT h rows)) (PD : ProgD h rows) (hr : rows.length ≤ 4) (D : Dr G d wp cp (n + 9))
    (k : ∀ y t G', IsTh G' y t → Dr G' d wp cp n → But d wp G G' → Q y G') :
    tCall spBent [] E0 (tCons (tVar 1) (tCons (tIf (tTest (tOp rg (tCall spTake [] E0 (tCons (tVar 1) (tCons (tC (.int 4)) tNil))) (tC (.int 0)))) (tVar 8) (tCall spBent [] E0 (tCons (tVar 1) (tCons (tVar 8) (tCons (tLst tNil) tNil))))) (tCons (tCall spAllN [] E0 (tCons (tVar 3) tNil)) tNil)))
      [s0, some (.ref d), s2, some hv, s4, s5, s6, s7, some (.ref pp), s9, s10, s11, s12] G Q := by
  obtain ⟨z1, z2⟩ := prog_sz PD hr
  have nwp : ∀ {H : Hp} {m : Nat} {b : Addr}, Dr H d wp cp m → H b = none → b ≠ wp := fun {H m b} D n z => by
    obtain ⟨ws, cs, r, t, a, _⟩ := D
    rw [z, a.wl] at n; cases n
  refine ⟨_, rfl, _, rfl, d, wp, cp, n + 8, 4, rfl, D, by decide, by decide, fun v G1 v0 v1 D1 B1 => hrg _ _ _ _ ⟨_, rfl, ?_⟩⟩
  have s1 := soft_but D D1 B1
  by_cases hv0 : (0 : Int) < v
  · refine iteT' (decide_eq_true hv0) ⟨_, rfl, _, rfl, hv, h, rfl, s1.th hh, PD.house, fun na ss G2 k2 nna hna hns hl => ?_⟩
    have D2 := dr_same k2 D1
    unfold tNil
    refine ⟨d, wp, cp, na, n, 100, .ref pp, pT h rows, ss, rfl, k2.th (s1.th hp), by omega, z2, by decide, by decide, hna, nwp D1 nna, hns, by omega, dr_le (by omega) D2, fun y G3 hg D3 B3 => ?_⟩
    obtain ⟨t, ht, _, _⟩ := hg
    exact k y t G3 ht D3 (But.trans B1 (But.trans (But.ofK k2) B3))
  · refine iteF' (decide_eq_false hv0) ⟨_, rfl, _, rfl, Nat.zero_le _, fun L nL => ?_⟩
    have kL : Kp G1 (upd G1 L (.lst [])) := Kp.refl.new nL
    have hL : (upd G1 L (.lst [])) L = some (.lst []) := upd_same
    generalize upd G1 L (.lst []) = G2 at kL hL ⊢
    have D2 := dr_same kL D1
    unfold tNil
    refine ⟨d, wp, cp, L, n + 4, 100, .ref pp, pT h rows, [], rfl, kL.th (s1.th hp), by omega, z2, by decide, by decide, hL, nwp D1 nL, fun s hs => by simp at hs, by simp, dr_le (by omega) D2, fun y G3 hg D3 B3 => ?_⟩
    obtain ⟨t, ht, hs, hlf⟩ := hg
    have s3 := soft_but D2 D3 B3
    refine ⟨_, rfl, hv, h, rfl, s3.th (kL.th (s1.th hh)), PD.house, fun na ss G4 k4 nna hna hns hl => ?_⟩
    have D4 := dr_same k4 D3
    refine ⟨d, wp, cp, na, n, 102, y, t, ss, rfl, k4.th ht, by omega, hlf, by decide, by decide, hna, nwp D3 nna, hns, by omega, dr_le (by omega) D4, fun y2 G5 hg5 D5 B5 => ?_⟩
    obtain ⟨t2, ht2, _, _⟩ := hg5
    exact k y2 t2 G5 ht2 D5 (But.trans B1 (But.trans (But.ofK kL) (But.trans B3 (But.trans (But.ofK k4) B5))))
/-- a call that must raise -/
theorem spG_bad {T : List Addr} {CP CW : Addr} {j : Fin 3} {x y : V} {p t : Th} {H : Hp} {Q : VK} {E : XK} (tb : Th.Tabs T H) (hx : IsTh H x p) (hy : IsTh H y t)
    (b : (progT p = false ∧ ∀ H', Go T H H' → E (.ref CP) none H') ∨ (progT p = true ∧ wordT (Pr.namesOf (Hs.nth 1 p)) t = false ∧ ∀ H', Go T H H' → E (.ref CW) none H')) : spG T CP CW j [some x, some y] [] H Q E := by
  refine ⟨x, y, rfl, rfl, ?_⟩
  have A : ∀ ok, Asked T CP CW H E x y ok := fun ok => .inl ⟨p, t, hx, hy, b⟩
  match j with
  | 0 => exact ⟨x, y, rfl, tb, A _⟩
  | 1 => exact ⟨x, y, rfl, tb, A _⟩
  | 2 => exact ⟨x, y, rfl, tb, A _⟩
end Ly

set_option Elab.async false
set_option linter.all false
set_option maxRecDepth 100000
set_option maxHeartbeats 4000000
/-! the tests of the lambdas' errors; what is kept about cells. -/
namespace Ly
open PySem PySem.Spec PyProof.Rows L2 Sx Rp Dw NdefX GxR Rw Th Kd Gx Nm Hs Pr Ps RZ Lw Lh Lp Lq Ez En An Ah La Lb Li Ln Lo Lr Sb Pa Pp Lz Oa Od Be Bw Lg Ll Wl Lm Lk Ler Is Cf Ww Kw Ky
theorem exv_ne {a : Addr} {cls : Value} {d : Option Addr} (ps : Array Value) : exv a cls d ≠ .tbl ps := fun z => by unfold exv at z; cases z
theorem grp_test {K : PySem.W.Frag} {T : List Addr} {B0 CP CW CC L L0 fa c : Addr} {lam : Fin 3 → Expr} {fs cs : Fin 3 → Addr} {x y : V} {p t : Th} {s0 s1 s2 s3 s4 s5 s6 s8 s9 s10 s11 s12 : Option V} {G : Hp} {Q : VK}
    (hL : G L = some (.lst [.ref (fs 0), .ref (fs 1), .ref (fs 2)])) (hf : ∀ j : Fin 3, G (fs j) = some (LamO (fs j) qL (lPar (lam j)) (lBody (lam j)) (lScope (lam j)) (clG lam L0 fa c j) (cs j)) ∧ G (cs j) = some (LamX.CodeO (cs j) qL)) (tb : Th.Tabs T G) (hx : IsTh G x p) (hy : IsTh G y t)
    (bad : (progT p = false ∧ CC = CP) ∨ (progT p = true ∧ wordT (Pr.namesOf (Hs.nth 1 p)) t = false ∧ CC = CW)) (xC : PySem.W.exmOne K (.ref CC) (.ref B0) = some true) (eC : ExcC K CC) (iC : PySem.W.kitOne K (.ref CC) (.ref CC) = some true)
    (k : ∀ D G', Go T G G' → G' D = some (.lst []) → Q (.ref D) G') :
    tLc (iList K (tVar 7)) (gName 12) (tTest2 K B0 CC 12 (fun j => lPar (lam j)) (fun j => lBody (lam j)) (fun j => lScope (lam j)) (clG lam L0 fa c) (spG T CP CW) [some x, some y]) (tC (.int 1)) [12] [s0, s1, s2, s3, s4, s5, s6, some (.ref L), s8, s9, s10, s11, s12] G Q := by
  refine ⟨_, rfl, L, rfl, ⟨_, SqL.of hL⟩, fun D nD => ?_⟩
  refine lc_list (K := K) (a := L) (xs := [.ref (fs 0), .ref (fs 1), .ref (fs 2)]) (fun i G2 => G2 D = some (.lst []) ∧ Go T G G2) ⟨upd_same, (Go.refl tb).new nD⟩ (fun i G2 _ h => SqL.of (tb.at h.2.fr hL fun ps y => by cases y)) (fun i v G2 hv h => ?_) (fun G2 h => k D G2 h.2 h.1)
  obtain ⟨hD, g⟩ := h
  obtain ⟨j, rfl⟩ : ∃ j : Fin 3, v = .ref (fs j) := by
    match i, hv with
    | 0, hv => cases hv; exact ⟨0, rfl⟩
    | 1, hv => cases hv; exact ⟨1, rfl⟩
    | 2, hv => cases hv; exact ⟨2, rfl⟩
    | i + 3, hv => simp at hv
  refine ⟨rfl, j, fs j, cs j, rfl, tb.at g.fr (hf j).1 (fun ps y => lamO_ne ps y), tb.at g.fr (hf j).2 (fun ps y => LamX.codeO_ne ps y), spG_bad g.tb (Go.th tb g hx) (Go.th tb g hy) ?_⟩
  have fin : ∀ H', Go T G2 H' → ∀ a, H' a = none → (upd H' a (exv a (.ref CC) none)) D = some (.lst []) ∧ Go T G (upd H' a (exv a (.ref CC) none)) := fun H' g' a na => by
    have hD' := g.tb.at g'.fr hD fun ps y => by cases y
    exact ⟨by rw [upd_ne (fun y => by rw [y, na] at hD'; cases hD')]; exact hD', (g.trans g').new na⟩
  rcases bad with ⟨b1, rfl⟩ | ⟨b1, b2, rfl⟩
  · exact .inl ⟨b1, fun H' g' => ⟨xC, fun a na => ⟨a, CC, .ref CC, .ref CC, true, rfl, upd_same, eC, .own CC, iC, _, rfl, iteF' rfl (fin H' g' a na)⟩⟩⟩
  · exact .inr ⟨b1, b2, fun H' g' => ⟨xC, fun a na => ⟨a, CC, .ref CC, .ref CC, true, rfl, upd_same, eC, .own CC, iC, _, rfl, iteF' rfl (fin H' g' a na)⟩⟩⟩
theorem phi_of {X : Cx} {pins : List (Addr × Obj)} {σ : L2.St} {H : Hp} {s : Shared} {lam : Fin 3 → Expr} {fr : List Str} {js : List Nat} {L fa c : Addr} (I : Inv X pins σ H s) (hsc : X.env.scope = defScope sLaw) (hce : X.env.cells = cellsL L fa c) (hlo : X.env.locals = L) (hb : ∀ j, NdefX.ndefB (defScope sLaw) (lScope (lam j)) fr = true)
    (hjs : js.map (fun j => X.N[j]?) = fr.map some) : PhiG lam fr L fa c (js.map (slotAt σ)) s H := fun j => by
  have cp : Caps X (clG lam L fa c j) fr js := by
    have := Caps.made (scope := lScope (lam j)) (fr := fr) (js := js) I.ok (fun y hy e => by rw [hsc]; exact ndef_free (hb j) y hy e) (ndef_fr (hb j)) hjs
    rw [hce] at this
    exact this
  refine ⟨cells_of I cp, fun y b e => ?_⟩
  have e2 := cp.sub y b e
  refine ⟨by rw [← hce]; exact e2, ?_⟩
  rw [← hlo]
  exact cell_far I e2
/-- the script's list stands -/
theorem sq_mv {K : PySem.W.Frag} {T : List Addr} {d wp : Addr} {H G : Hp} {a : Addr} {xs : List V} (h : SqL K H a xs) (tb : Th.Tabs T H) (nd : a ≠ d) (nw : a ≠ wp) (k : ∀ b o, b ≠ d → b ≠ wp → b ∉ T → H b = some o → G b = some o) : SqL K G a xs := by
  rcases h with h | h
  · refine .inl ?_
    rcases h with h | ⟨o, h⟩
    · exact .inl (k _ _ nd nw (tb.ne h fun ps y => by cases y) h)
    · exact .inr ⟨o, k _ _ nd nw (tb.ne h fun ps y => by cases y) h⟩
  · exact .inr h
end Ly
namespace Ly
open PySem PySem.Spec PyProof.Rows L2 Sx Rp Dw NdefX GxR Rw Th Kd Gx Nm Hs Pr Ps RZ Lw Lh Lp Lq Ez En An Ah La Lb Li Ln Lo Lr Sb Pa Pp Lz Oa Od Be Bw Lg Ll Wl Lm Lk Ler Is Cf Ww Kw Ky
section
variable {T : List Addr} {PL d wp cp : Addr} {q : Str} {n m : Nat} {H G : Hp}
theorem Ws.mv (W : Ws T PL q d wp cp n H) (hT : PL ∉ T) (k : ∀ b o, b ≠ d → b ≠ wp → b ∉ T → H b = some o → G b = some o) (tb : Th.Tabs T G) (D : Dr G d wp cp m) : Ws T PL q d wp cp m G ∧ St T PL d wp H G := by
  obtain ⟨ws, cs, r, t, a, _⟩ := W.dr
  refine ⟨⟨tb, tabS_keep W.tl (fun ps e => k _ _ (fun y => by rw [y, a.dc] at e; cases e) (fun y => by rw [y, a.wl] at e; cases e) hT e) (fun c e => ?_), D⟩, fun b o h1 h2 _ h4 e => k b o h1 h2 h4 e⟩
  obtain ⟨x1, x2, _, x4⟩ := W.ne e (fun _ y => by unfold LamX.CodeO at y; cases y) (fun _ y => by unfold LamX.CodeO at y; cases y) (fun ps y => LamX.codeO_ne ps y)
  exact k _ _ x1 x2 x4 e
/-- a list of one's own is written -/
theorem Ws.put (W : Ws T PL q d wp cp n H) {L : Addr} {xs ys : List V} (hL : H L = some (.lst xs)) (nL : L ≠ wp) (nc : L ≠ cp) : Ws T PL q d wp cp n (upd H L (.lst ys)) := by
  obtain ⟨ws, cs, r, t, a, b⟩ := W.dr
  have n1 : d ≠ L := fun y => by rw [← y, a.dc] at hL; cases hL
  refine ⟨fun c hc => ?_, tabS_keep W.tl (fun ps e => by rw [upd_ne (fun y => by rw [y, hL] at e; cases e)]; exact e) (fun c e => by rw [upd_ne (fun y => by rw [y, hL] at e; unfold LamX.CodeO at e; cases e)]; exact e), dr_put W.dr ⟨Ne.symm n1, nL, nc⟩⟩
  obtain ⟨ps, e, q2⟩ := W.tb c hc
  exact ⟨ps, by rw [upd_ne (fun y => by rw [y, hL] at e; cases e)]; exact e, q2⟩
theorem St.put {L : Addr} {ys : List V} {H0 : Hp} (k : St T PL d wp H0 H) (nL : H0 L = none) : St T PL d wp H0 (upd H L (.lst ys)) := fun b o h1 h2 h3 h4 e => by
  rw [upd_ne (fun y => by rw [y, nL] at e; cases e)]
  exact k b o h1 h2 h3 h4 e
theorem lam_put {L f : Addr} {xs ys : List V} {φ : Heap → Prop} (hL : H L = some (.lst xs)) (e : H f = some (.ext φ)) : (upd H L (.lst ys)) f = some (.ext φ) := by
  rw [upd_ne (fun y => by rw [y, hL] at e; cases e)]; exact e
theorem lam_keep {f : Addr} {φ : Heap → Prop} (W : Ws T PL q d wp cp n H) (k : ∀ b o, b ≠ PL → H b = some o → G b = some o) (e : H f = some (.ext φ)) : G f = some (.ext φ) := by
  obtain ⟨ps, eP, _⟩ := W.tl
  exact k _ _ (fun y => by rw [y, eP] at e; cases e) e
theorem lst_keep {L : Addr} {xs : List V} (W : Ws T PL q d wp cp n H) (k : ∀ b o, b ≠ PL → H b = some o → G b = some o) (e : H L = some (.lst xs)) : G L = some (.lst xs) := by
  obtain ⟨ps, eP, _⟩ := W.tl
  exact k _ _ (fun y => by rw [y, eP] at e; cases e) e
theorem far_wp (W : Ws T PL q d wp cp n H) {L : Addr} (nL : H L = none) : L ≠ wp ∧ L ≠ cp := by
  have := dr_far W.dr nL
  exact ⟨this.2.1, this.2.2⟩
end
end Ly

set_option Elab.async false
set_option linter.all false
set_option maxRecDepth 100000
set_option maxHeartbeats 4000000
/-! lambdas put into a list, one behind another. -/
namespace Ly
open PySem PySem.Spec PyProof.Rows L2 Sx Rp Dw NdefX GxR Rw Th Kd Gx Nm Hs Pr Ps RZ Lw Lh Lp Lq Ez En An Ah La Lb Li Ln Lo Lr Sb Pa Pp Lz Oa Od Be Bw Lg Ll Wl Lm Lk Ler Is Cf Ww Kw Ky
section
variable {T : List Addr} {PL d wp cp : Addr} {n : Nat} {Gb G H' : Hp} {L : Addr} {xs ys : List V}
theorem lam_step (W : Ws T PL qL d wp cp n G) (hT : PL ∉ T) (st : St T PL d wp Gb G) (nb : Gb L = none) (nw : L ≠ wp) (nc : L ≠ cp) (hL : G L = some (.lst xs)) (k : ∀ b o, b ≠ PL → G b = some o → H' b = some o) (t : LamX.TabS H' PL qL) (ys : List V) :
    H' L = some (.lst xs) ∧ Ws T PL qL d wp cp n (upd H' L (.lst ys)) ∧ St T PL d wp Gb (upd H' L (.lst ys)) ∧ (∀ f φ, G f = some (.ext φ) → (upd H' L (.lst ys)) f = some (.ext φ)) ∧ ∀ f φ, H' f = some (.ext φ) → (upd H' L (.lst ys)) f = some (.ext φ) := by
  have hL' : H' L = some (.lst xs) := lst_keep W k hL
  have ⟨W', st'⟩ := W.lam hT k t
  exact ⟨hL', Ws.put W' hL' nw nc, St.put (st.trans st') nb, fun f φ e => lam_put hL' (lam_keep W k e), fun f φ e => lam_put hL' e⟩
theorem lam_first (W : Ws T PL qL d wp cp n Gb) (hT : PL ∉ T) (k : ∀ b o, b ≠ PL → Gb b = some o → H' b = some o) (t : LamX.TabS H' PL qL) (nL : H' L = none) (ys : List V) :
    Gb L = none ∧ L ≠ wp ∧ L ≠ cp ∧ Ws T PL qL d wp cp n (upd H' L (.lst ys)) ∧ St T PL d wp Gb (upd H' L (.lst ys)) ∧ (∀ f φ, H' f = some (.ext φ) → (upd H' L (.lst ys)) f = some (.ext φ)) := by
  have nb : Gb L = none := by
    cases e : Gb L with
    | none => rfl
    | some o =>
      rw [k L o (fun y => by obtain ⟨ps, eP, _⟩ := t; rw [y, eP] at nL; cases nL) e] at nL
      cases nL
  have ⟨W', st'⟩ := W.lam hT k t
  have ⟨f1, f2⟩ := far_wp W' nL
  have kp : Kp H' (upd H' L (.lst ys)) := Kp.refl.new nL
  have ⟨W2, st2⟩ := W'.kp kp
  exact ⟨nb, f1, f2, W2, st'.trans st2, fun f φ e => kp _ _ e⟩
end
def tri (a b c : Addr) : Fin 3 → Addr | 0 => a | 1 => b | 2 => c
theorem tri_hf {G : Hp} {lam : Fin 3 → Expr} {L0 fa c f0 f1 f2 c0 c1 c2 : Addr} (h0 : G f0 = some (LamO f0 qL (lPar (lam 0)) (lBody (lam 0)) (lScope (lam 0)) (clG lam L0 fa c 0) c0) ∧ G c0 = some (LamX.CodeO c0 qL)) (h1 : G f1 = some (LamO f1 qL (lPar (lam 1)) (lBody (lam 1)) (lScope (lam 1)) (clG lam L0 fa c 1) c1) ∧ G c1 = some (LamX.CodeO c1 qL))
    (h2 : G f2 = some (LamO f2 qL (lPar (lam 2)) (lBody (lam 2)) (lScope (lam 2)) (clG lam L0 fa c 2) c2) ∧ G c2 = some (LamX.CodeO c2 qL)) : ∀ j : Fin 3, G (tri f0 f1 f2 j) = some (LamO (tri f0 f1 f2 j) qL (lPar (lam j)) (lBody (lam j)) (lScope (lam j)) (clG lam L0 fa c j) (tri c0 c1 c2 j)) ∧ G (tri c0 c1 c2 j) = some (LamX.CodeO (tri c0 c1 c2 j) qL)
  | 0 => h0
  | 1 => h1
  | 2 => h2
end Ly

set_option Elab.async false
set_option linter.all false
set_option maxRecDepth 100000
set_option maxHeartbeats 16000000
/-! The law's own def. -/
namespace Ly
open PySem PySem.Spec PyProof.Rows L2 Sx Rp Dw NdefX GxR Rw Th Kd Gx Nm Hs Pr Ps RZ Lw Lh Lp Lq Ez En An Ah La Lb Li Ln Lo Lr Sb Pa Pp Lz Oa Od Be Bw Lg Ll Wl Lm Lk Ler Is Cf Ww Kw Ky
theorem cb1 {r : List V → Hp → VK → Prop} {te : TE} {σ : L2.St} {H : Hp} {Q : VK} (h : te σ H (fun v H2 => r [v] H2 Q)) : tCB r (tCons te tNil) σ H Q := h
theorem sa1 {te : TE} {g : TG} {r : TS} {σ : L2.St} {H : Hp} {Q : Ends} (h : te σ H (fun v H2 => g v σ H2 fun σ2 H3 => r Q σ2 H3)) : tSeq (tAsg te g) r Q σ H := h
section
variable {P : Program} {w : World} {K : PySem.W.Frag} {mg : Str → Option Value} {base : Heap} {T : List Addr} {B0 CP CW PL c : Addr}
theorem law_run {fa fe gp : Addr} {fd ed pd : FuncData} {kk : Nat} (hkk : 8 ≤ kk) (hk2 : kk ≤ 140) (F : FunT K "law" "law" sLaw fa c fd) (hbf : ∀ (s : Shared) (u : Value), BindsTo s fd ⟨[u], []⟩ [(("script" : Str), u)]) (hs : ∃ mm, base.Ns sysModules mm)
    (Beg : DefOk P w K mg base "_law_begun" 1 ["script"] (spBegun K)) (Lon : DefOk P w K mg base "_law_long_right" (kk + 1) ["draw"] (spLong T)) (Hou : DefOk P w K mg base "_law_house" 5 ["draw"] spHouseD) (Pro : DefOk P w K mg base "_law_program" 4 ["draw", "house", "most"] spProgD) (Wor : DefOk P w K mg base "_law_word" 4 ["draw", "house", "most"] spWordD)
    (And : DefOk P w K mg base "_law_answered" 2 ["program", "word"] spAnsd) (Sta : DefOk P w K mg base "_law_state" 2 ["program", "word"] spSt) (Ben : DefOk P w K mg base "_law_bent" 147 ["draw", "thing", "names"] spBent) (Tak : DefOk P w K mg base "_law_take" 2 ["draw", "many"] spTake) (All : DefOk P w K mg base "_law_all_names" 1 ["house"] spAllN)
    (Lpr : DefOk P w K mg base "_law_is_program" 4 ["thing"] (spL progT)) (Bad : DefOk P w K mg base "_law_bad_word" 4 ["draw", "house", "word"] spBad)
    (His : DefX P w K mg base "history" kk (spHis T CP CW)) (Ans : DefX P w K mg base "answers" kk (spAns T CP CW)) (Sbe : DefX P w K mg base "state_behind" kk (spSb T CP CW))
    (mgp : mg "is_program" = some (.ref gp)) (kgp : PySem.W.keepIn K (.ref gp) = true) (Fgp : FnOk P w K mg base CX0 kk gp pd ["thing"] (spProg T)) (bgp : Binds K pd ["thing"] []) (bgk : KBinds K pd ["thing"] ["thing"] (fun us ws => us ++ ws) (fun vs zs => vs ++ zs))
    (Fe : Fun K "_law_error" "_law_error" sErr fe ed) (me : mg "_law_error" = some (.ref fe)) (ke : PySem.W.keepIn K (.ref fe) = true) (be : Binds K ed ["work"] [])
    (mP : mg "PageError" = some (.ref B0)) (mBP : mg "BadProgram" = some (.ref CP)) (mBW : mg "BadWord" = some (.ref CW)) (xP : PySem.W.exmOne K (.ref CP) (.ref B0) = some true) (xW : PySem.W.exmOne K (.ref CW) (.ref B0) = some true) (eP : ExcC K CP) (eW : ExcC K CW)
    (iP : PySem.W.kitOne K (.ref CP) (.ref CP) = some true) (iW : PySem.W.kitOne K (.ref CW) (.ref CW) = some true)
    (ml : mg "len" = none) (mmin : mg "min" = none) (mra : mg "range" = none) (mtu : mg "tuple" = none) (mr : mg "repr" = none) (mi : mg "isinstance" = none) (TB : LamX.TabB base mg c PL) (hT : PL ∉ T)
    {s : Shared} {H : Hp} {a : Addr} {ns : List Int} (e0 : Env0 P w K mg base callerA [] s H) (hS : SqL K H a (ns.map V.int)) (hn : ns.length ≤ 63) (tb : Th.Tabs T H) (tl : LamX.TabS H PL qL) : codeAny (model P w) callerA (.call (.ref fa) ⟨[.ref a], []⟩) (CR CX0 [] P w H s (fun v _ => v = .bl true) E0) s := by
  obtain ⟨f1, g1, m1, k1, o1, b1⟩ := Beg
  obtain ⟨f2, g2, m2, k2, o2, b2⟩ := Lon
  obtain ⟨f3, g3, m3, k3, o3, b3⟩ := Hou
  obtain ⟨f4, g4, m4, k4, o4, b4⟩ := Pro
  obtain ⟨f5, g5, m5, k5, o5, b5⟩ := Wor
  obtain ⟨f6, g6, m6, k6, o6, b6⟩ := And
  obtain ⟨f7, g7, m7, k7, o7, b7⟩ := Sta
  obtain ⟨f8, g8, m8, k8, o8, b8⟩ := Ben
  obtain ⟨f9, g9, m9, k9, o9, b9⟩ := Tak
  obtain ⟨f10, g10, m10, k10, o10, b10⟩ := All
  obtain ⟨f11, g11, m11, k11, o11, b11⟩ := Lpr
  obtain ⟨f12, g12, m12, k12, o12, b12⟩ := Bad
  obtain ⟨fh, gh, mh, kh, oh, bh, bhk⟩ := His
  obtain ⟨fn, gn, mn, kn, on, bn, bnk⟩ := Ans
  obtain ⟨fs, gs, ms, ks, os, bs, bsk⟩ := Sbe
  obtain ⟨oc, od, kV, doc, pm, an, ct, osl, rfl, lk, hcd⟩ := F.ex
  have rm : ∀ env, Room 150 (callerA.deeper env) := fun env => ⟨rfl, by show callerA.depth + 1 + 3 * 150 + 5 < recursionLimit; decide, by show callerA.units + 3 + 16 * 150 + 200 < cLine; decide⟩
  have rk : ∀ env, Room (kk + 2) (callerA.deeper env) := fun env => (rm env).mono (by omega)
  have R1 : ∀ j, LRun P w K mg base (kk + 1) qL (lPar (lam1 j)) (lBody (lam1 j)) (lScope (lam1 j)) (clG lam1 s.heap.objs.size fa c j) ["program", "strange"] (spG T CP CW j)
    | 0 => lrun_call oh mh kh bh (nscope_by (by decide +kernel)) (fun _ _ _ => rfl) (by decide +kernel) (by decide +kernel) (by decide +kernel) (by decide +kernel) (by decide +kernel) (by decide +kernel)
    | 1 => lrun_call on mn kn bn (nscope_by (by decide +kernel)) (fun _ _ _ => rfl) (by decide +kernel) (by decide +kernel) (by decide +kernel) (by decide +kernel) (by decide +kernel) (by decide +kernel)
    | 2 => lrun_call os ms ks bs (nscope_by (by decide +kernel)) (fun _ _ _ => rfl) (by decide +kernel) (by decide +kernel) (by decide +kernel) (by decide +kernel) (by decide +kernel) (by decide +kernel)
  have R2 : ∀ j, LRun P w K mg base (kk + 1) qL (lPar (lam2 j)) (lBody (lam2 j)) (lScope (lam2 j)) (clG lam2 s.heap.objs.size fa c j) ["thing", "strange"] (spG T CP CW j)
    | 0 => lrun_call oh mh kh bh (nscope_by (by decide +kernel)) (fun _ _ _ => rfl) (by decide +kernel) (by decide +kernel) (by decide +kernel) (by decide +kernel) (by decide +kernel) (by decide +kernel)
    | 1 => lrun_call on mn kn bn (nscope_by (by decide +kernel)) (fun _ _ _ => rfl) (by decide +kernel) (by decide +kernel) (by decide +kernel) (by decide +kernel) (by decide +kernel) (by decide +kernel)
    | 2 => lrun_call os ms ks bs (nscope_by (by decide +kernel)) (fun _ _ _ => rfl) (by decide +kernel) (by decide +kernel) (by decide +kernel) (by decide +kernel) (by decide +kernel) (by decide +kernel)
  refine Lw.run_at (k := 150 - 1) (CX := CX0) (N := NL) (ps := ["script"]) (us := [.ref a]) (vs := [.ref a]) lk hcd scLaw ⟨rfl, by decide, by decide⟩ e0 (hbf s (.ref a)) (.cons rfl .nil) rfl
    (PSs.nox (pss_cons (ps_set (i := 1) scLaw.nd rfl (Or.inl rfl) (pe_call o1 ((rm _).mono (by decide)) rfl m1 k1 b1 .nil pass0 (pa_cons (pv 0) pa_nil)))
    (pss_cons (ps_if (pt_not (pt_val (pe_call o2 ((rk _).mono (by omega)) rfl m2 k2 b2 .nil pass0 (pa_cons (pv 1) pa_nil)))) (pss_one (ps_ret pe_bl)) pss_nil)
    (pss_cons (ps_for PassesOwn.never rfl (pi_range1 (by rfl) mra (pa_cons (pe_op op_add pe_int (pe_callB (call_min2 rfl) (by rfl) mmin (by decide +kernel) (pa_cons (pe_callB call_len_seq (by rfl) ml PySem.boot_len (pa_cons (pv 0) pa_nil)) (pa_cons pe_int pa_nil)))) pa_nil)) (pg_name (i := 2) scLaw.nd rfl (Or.inl rfl))
      (pss_cons (ps_set (i := 3) scLaw.nd rfl (Or.inl rfl) (pe_call o3 ((rm _).mono (by decide)) rfl m3 k3 b3 .nil pass0 (pa_cons (pv 1) pa_nil)))
      (pss_cons (ps_set (i := 8) scLaw.nd rfl (Or.inr rfl) (pe_call o4 ((rm _).mono (by decide)) rfl m4 k4 b4 .nil pass0 (pa_cons (pv 1) (pa_cons (pv 3) (pa_cons pe_int pa_nil)))))
      (pss_cons (ps_for PassesOwn.never rfl (pi_range1 (by rfl) mra (pa_cons pe_int pa_nil)) (pg_name (i := 4) scLaw.nd rfl (Or.inl rfl))
        (pss_cons (ps_set (i := 5) scLaw.nd rfl (Or.inl rfl) (pe_call o5 ((rm _).mono (by decide)) rfl m5 k5 b5 .nil pass0 (pa_cons (pv 1) (pa_cons (pv 3) (pa_cons pe_int pa_nil)))))
        (pss_cons (ps_set (i := 6) scLaw.nd rfl (Or.inl rfl) (pe_call o6 ((rm _).mono (by decide)) rfl m6 k6 b6 .nil pass0 (pa_cons (pv 8) (pa_cons (pv 5) pa_nil))))
        (pss_cons (ps_if (PW.pt (pw_or (pt_cmpR op_ne (pe_callB (call_reprD rfl (by show callerA.units + 3 + 100 < cLine; decide) hs) (by rfl) mr (by decide +kernel) (pa_cons (pe_call oh ((rk _).mono (by omega)) rfl mh kh bh .nil passL (pa_cons (pv 8) (pa_cons (pv 5) pa_nil))) pa_nil)) (pe_callB (call_reprD rfl (by show callerA.units + 3 + 100 < cLine; decide) hs) (by rfl) mr (by decide +kernel) (pa_cons (pv 6) pa_nil)) (nomark _)) (pw_or1 (pt_cmpR op_ne (pe_callB (call_reprD rfl (by show callerA.units + 3 + 100 < cLine; decide) hs) (by rfl) mr (by decide +kernel) (pa_cons (pe_call on ((rk _).mono (by omega)) rfl mn kn bn .nil passL (pa_cons (pv 8) (pa_cons (pv 5) pa_nil))) pa_nil)) (pe_callB (call_reprD rfl (by show callerA.units + 3 + 100 < cLine; decide) hs) (by rfl) mr (by decide +kernel) (pa_cons (pe_callTy call_tuple_of (by rfl) mtu (by decide +kernel) (pa_cons (pe_lc (own := [("step", 11)]) (g := gName 11) (tt := tYes) (te := tOp (rIxT K) (tVar 11) (tC (.int 1))) (by rfl) scLaw.nd (pi_tup (pv 6)) (blkOk_by (own := [("step", 11)]) (N := NL) (sc := defScope sLaw) (by decide +kernel)) (fun _ _ _ _ _ => pg_name (i := 11) scLaw.nd rfl (Or.inl rfl)) (fun _ _ _ _ _ => pts_nil) (fun _ _ _ _ _ => pe_ix ix_tup (pv 11) pe_int (fun _ _ => rfl))) pa_nil)) pa_nil)) (nomark _))))) (pss_one (ps_ret pe_bl)) pss_nil)
        (pss_one (ps_if (pt_cmpR op_ne (pe_callB SkE.call_repr_int (by rfl) mr (by decide +kernel) (pa_cons (pe_call os ((rk _).mono (by omega)) rfl ms ks bs .nil passL (pa_cons (pv 8) (pa_cons (pv 5) pa_nil))) pa_nil)) (pe_callB SkE.call_repr_int (by rfl) mr (by decide +kernel) (pa_cons (pe_call o7 ((rm _).mono (by decide)) rfl m7 k7 b7 .nil pass0 (pa_cons (pv 8) (pa_cons (pv 5) pa_nil))) pa_nil)) (nomark _)) (pss_one (ps_ret pe_bl)) pss_nil))))))
      (pss_cons (ps_if (PW.pt (pw_or (pt_cmpR (op_neD (rm _).units) (pe_kw0 oh ((rk _).mono (by omega)) rfl mh kh bhk passL (pk_cons (pv 5) (pk_cons (pv 8) pk_nil))) (pv 6) (nomark _)) (pw_or1 (pt_cmpR (op_neD (rm _).units) (pe_kw0 on ((rk _).mono (by omega)) rfl mn kn bnk passL (pk_cons (pv 5) (pk_cons (pv 8) pk_nil))) (pe_callTy call_tuple_of (by rfl) mtu (by decide +kernel) (pa_cons (pe_lc (own := [("step", 11)]) (g := gName 11) (tt := tYes) (te := tOp (rIxT K) (tVar 11) (tC (.int 1))) (by rfl) scLaw.nd (pi_tup (pv 6)) (blkOk_by (own := [("step", 11)]) (N := NL) (sc := defScope sLaw) (by decide +kernel)) (fun _ _ _ _ _ => pg_name (i := 11) scLaw.nd rfl (Or.inl rfl)) (fun _ _ _ _ _ => pts_nil) (fun _ _ _ _ _ => pe_ix ix_tup (pv 11) pe_int (fun _ _ => rfl))) pa_nil)) (nomark _))))) (pss_one (ps_ret pe_bl)) pss_nil)
      (pss_cons (ps_if (PW.pt (pw_or (pt_cmpR op_ne (pe_kw0 os ((rk _).mono (by omega)) rfl ms ks bsk passL (pk_cons (pv 5) (pk_cons (pv 8) pk_nil))) (pe_call o7 ((rm _).mono (by decide)) rfl m7 k7 b7 .nil pass0 (pa_cons (pv 8) (pa_cons (pv 5) pa_nil))) (nomark _)) (pw_or1 (pt_cmpR op_notBl (pe_call Fgp ((rk _).mono (by omega)) rfl mgp kgp bgp .nil pass0 (pa_cons (pv 8) pa_nil)) pe_bl (by rfl))))) (pss_one (ps_ret pe_bl)) pss_nil)
      (pss_cons (ps_for PassesOwn.never rfl (pi_range1 (by rfl) mra (pa_cons pe_int pa_nil)) (pg_name (i := 4) scLaw.nd rfl (Or.inl rfl))
        (pss_cons (ps_set (i := 10) scLaw.nd rfl (Or.inr rfl) (pe_call o8 ((rm _).mono (by decide)) rfl m8 k8 b8 .nil pass0 (pa_cons (pv 1) (pa_cons (pe_ifExp (pt_cmpR op_gt (pe_call o9 ((rm _).mono (by decide)) rfl m9 k9 b9 .nil pass0 (pa_cons (pv 1) (pa_cons pe_int pa_nil))) pe_int (nomark _)) (pv 8) (pe_call o8 ((rm _).mono (by decide)) rfl m8 k8 b8 .nil pass0 (pa_cons (pv 1) (pa_cons (pv 8) (pa_cons (pe_lst pa_nil) pa_nil))))) (pa_cons (pe_call o10 ((rm _).mono (by decide)) rfl m10 k10 b10 .nil pass0 (pa_cons (pv 3) pa_nil)) pa_nil)))))
        (pss_one (ps_if (PW.pt (pw_or (pt_cmpR op_ne (pe_call Fgp ((rk _).mono (by omega)) rfl mgp kgp bgp .nil pass0 (pa_cons (pv 10) pa_nil)) (pe_call o11 ((rm _).mono (by decide)) rfl m11 k11 b11 .nil pass0 (pa_cons (pv 10) pa_nil)) (nomark _)) (pw_or1 (pt_cmpR op_ne (pe_kw0 Fgp ((rk _).mono (by omega)) rfl mgp kgp bgk pass0 (pk_cons (pv 10) pk_nil)) (pe_call o11 ((rm _).mono (by decide)) rfl m11 k11 b11 .nil pass0 (pa_cons (pv 10) pa_nil)) (nomark _))))) (pss_one (ps_ret pe_bl)) pss_nil))))
      (pss_cons (ps_set (i := 9) scLaw.nd rfl (Or.inr rfl) (pe_call o12 ((rm _).mono (by decide)) rfl m12 k12 b12 .nil pass0 (pa_cons (pv 1) (pa_cons (pv 3) (pa_cons (pv 5) pa_nil)))))
      (pss_cons (ps_set (i := 7) scLaw.nd rfl (Or.inl rfl) (pe_lst (pa_cons (pe_lamO (PL := PL) (q := qL) TB rfl rfl (LamX.lamS_by (sc := defScope sLaw) (by decide +kernel)) rfl) pa_nil)))
      (pss_cons (ps_expr (pe_bm PySem.F.plainAttrs_list PySem.F.slot_list_append PySem.F.type_list_append mt_append (pv 7) (pa_cons (pe_lamO (PL := PL) (q := qL) TB rfl rfl (LamX.lamS_by (sc := defScope sLaw) (by decide +kernel)) rfl) pa_nil)))
      (pss_cons (ps_expr (pe_bm PySem.F.plainAttrs_list PySem.F.slot_list_append PySem.F.type_list_append mt_append (pv 7) (pa_cons (pe_lamO (PL := PL) (q := qL) TB rfl rfl (LamX.lamS_by (sc := defScope sLaw) (by decide +kernel)) rfl) pa_nil)))
      (pss_cons (ps_if (pt_cmpR (op_neD (rm _).units) (pe_lcW (Ω := List (Option V)) (Φ := PhiG lam1 ["program", "strange"] s.heap.objs.size fa c) (own := [("work", 12)]) (g := gName 12) (tt := tTest2 K B0 CW 12 (fun j => lPar (lam1 j)) (fun j => lBody (lam1 j)) (fun j => lScope (lam1 j)) (clG lam1 s.heap.objs.size fa c) (spG T CP CW)) (te := tC (.int 1)) (by rfl) scLaw.nd (pi_list (pv 7)) (blkOk_by (own := [("work", 12)]) (N := NL) (sc := defScope sLaw) (by decide +kernel)) (fun _ _ _ _ _ => pg_name (i := 12) scLaw.nd rfl (Or.inl rfl))
          (fun ω s3 H3 C cl fp hΦ hfp => pts_one (pt_not (pt_val (pe_callB call_isN (by rfl) mi (by decide +kernel) (pa_cons (pe_err Fe me ke be (by rfl) mP R1 (fun j H Q Q' E E' h1 h2 h3 => spG_mono j H Q Q' E E' h1 h2 h3) ((rk _).mono (by omega)) (fun j => (hΦ j).1) (fun j y b e => ⟨⟨fun z => ((hΦ j).2 y b e).2 (List.mem_singleton.mp z), fun z => hfp b z y b ((hΦ j).2 y b e).1 rfl⟩, fun z => ((hΦ j).2 y b e).2 (List.mem_singleton.mp z)⟩) rfl (Or.inl rfl)) (pa_cons (pe_glob (v := .ref CW) (by rfl) mBW rfl) pa_nil)))))) (fun _ _ _ _ _ => pe_int)) (pe_lst pa_nil) (nomark _)) (pss_one (ps_ret pe_bl)) pss_nil)
      (pss_one (ps_if (pt_not (pt_val (pe_call o11 ((rm _).mono (by decide)) rfl m11 k11 b11 .nil pass0 (pa_cons (pv 10) pa_nil)))) (pss_cons (ps_set (i := 7) scLaw.nd rfl (Or.inl rfl) (pe_lst (pa_cons (pe_lamO (PL := PL) (q := qL) TB rfl rfl (LamX.lamS_by (sc := defScope sLaw) (by decide +kernel)) rfl) pa_nil)))
        (pss_cons (ps_expr (pe_bm PySem.F.plainAttrs_list PySem.F.slot_list_append PySem.F.type_list_append mt_append (pv 7) (pa_cons (pe_lamO (PL := PL) (q := qL) TB rfl rfl (LamX.lamS_by (sc := defScope sLaw) (by decide +kernel)) rfl) pa_nil)))
        (pss_cons (ps_expr (pe_bm PySem.F.plainAttrs_list PySem.F.slot_list_append PySem.F.type_list_append mt_append (pv 7) (pa_cons (pe_lamO (PL := PL) (q := qL) TB rfl rfl (LamX.lamS_by (sc := defScope sLaw) (by decide +kernel)) rfl) pa_nil)))
        (pss_one (ps_if (pt_cmpR (op_neD (rm _).units) (pe_lcW (Ω := List (Option V)) (Φ := PhiG lam2 ["thing", "strange"] s.heap.objs.size fa c) (own := [("work", 12)]) (g := gName 12) (tt := tTest2 K B0 CP 12 (fun j => lPar (lam2 j)) (fun j => lBody (lam2 j)) (fun j => lScope (lam2 j)) (clG lam2 s.heap.objs.size fa c) (spG T CP CW)) (te := tC (.int 1)) (by rfl) scLaw.nd (pi_list (pv 7)) (blkOk_by (own := [("work", 12)]) (N := NL) (sc := defScope sLaw) (by decide +kernel)) (fun _ _ _ _ _ => pg_name (i := 12) scLaw.nd rfl (Or.inl rfl))
          (fun ω s3 H3 C cl fp hΦ hfp => pts_one (pt_not (pt_val (pe_callB call_isN (by rfl) mi (by decide +kernel) (pa_cons (pe_err Fe me ke be (by rfl) mP R2 (fun j H Q Q' E E' h1 h2 h3 => spG_mono j H Q Q' E E' h1 h2 h3) ((rk _).mono (by omega)) (fun j => (hΦ j).1) (fun j y b e => ⟨⟨fun z => ((hΦ j).2 y b e).2 (List.mem_singleton.mp z), fun z => hfp b z y b ((hΦ j).2 y b e).1 rfl⟩, fun z => ((hΦ j).2 y b e).2 (List.mem_singleton.mp z)⟩) rfl (Or.inl rfl)) (pa_cons (pe_glob (v := .ref CP) (by rfl) mBP rfl) pa_nil)))))) (fun _ _ _ _ _ => pe_int)) (pe_lst pa_nil) (nomark _)) (pss_one (ps_ret pe_bl)) pss_nil))))) pss_nil))))))))))))))
    (pss_one (ps_ret pe_bl)))))) ?_
  refine ⟨_, rfl, a, ns, rfl, hS, hn, fun d wp cp H1 nd nw nc D1 k1 => ?_⟩
  have W1 : Ws T PL qL d wp cp 999999999 H1 := ⟨tb.keep k1, tabS_keep tl (fun _ e => k1 _ _ e) (fun _ e => k1 _ _ e), D1⟩
  have hS1 : SqL K H1 a (ns.map V.int) := Same.seq k1 hS
  refine ⟨_, rfl, d, wp, cp, 999999599, rfl, W1.tb, dr_le (by omega) D1, fun H2 tb2 D2 mv => ⟨_, rfl, iteF' rfl ?_⟩⟩
  have W2 := (Ws.mv W1 hT mv tb2 D2).1
  have hS2 : SqL K H2 a (ns.map V.int) := by
    rcases hS with h | h
    · have ne : H a ≠ none := by
        rcases h with h | ⟨o, h⟩ <;> (rw [h]; exact Option.some_ne_none _)
      exact sq_mv hS1 W1.tb (fun y => ne (y ▸ nd)) (fun y => ne (y ▸ nw)) mv
    · exact .inr h
  refine ⟨_, rfl, a, _, rfl, .inl hS2, _, _, rfl, _, _, rfl, rfl, _, rfl, ?_, ?_, ?_⟩
  · rw [List.length_map]; split <;> omega
  · rw [List.length_map]; split <;> omega
  have nine : (2 + if (5 : Int) < ((ns.map V.int).length : Int) then (5 : Int) else ((ns.map V.int).length : Int)).toNat ≤ 7 := by split <;> omega
  generalize (2 + if (5 : Int) < ((ns.map V.int).length : Int) then (5 : Int) else ((ns.map V.int).length : Int)).toNat = m at nine
  refine for_range (lo := 0) (n := m) (fun i σ G => ∃ o2 o3 o4 o5 o6 o7 o8 o9 o10 : Option V, σ = [some (.ref a), some (.ref d), o2, o3, o4, o5, o6, o7, o8, o9, o10, none, none] ∧ Ws T PL qL d wp cp (999999599 - 10000 * i) G) ⟨none, none, none, none, none, none, none, none, none, rfl, W2⟩ (fun i σ G hi h => ?_) (fun σ G h => rfl)
  obtain ⟨o2, o3, o4, o5, o6, o7, o8, o9, o10, rfl, W⟩ := h
  refine ⟨_, rfl, d, wp, cp, 999999499 - 10000 * i, rfl, dr_le (by omega) W.dr, fun hp h G1 hh Dh Dr1 B1 => ?_⟩
  have ⟨W1', _⟩ := W.but B1 Dr1
  refine ⟨_, rfl, _, rfl, d, wp, cp, 999999458 - 10000 * i, 4, .ref hp, h, rfl, by decide, by decide, hh, Dh, dr_le (by omega) W1'.dr, fun pp rows G2 PD lr hp2 Dr2 B2 => ?_⟩
  have ⟨W2', _⟩ := W1'.but B2 Dr2
  have hh2 := (soft_but Dr1 Dr2 B2).th hh
  have n1 : 1 ≤ (Pr.namesOf h).length := by unfold Pr.namesOf strsOf; rw [List.length_map, List.length_map]; exact Dh.one
  refine ⟨_, rfl, by decide, by decide, ?_⟩
  refine for_range (lo := 0) (n := 3) (fun i2 σ G => ∃ o4 o5 o6 : Option V, σ = [some (.ref a), some (.ref d), some (.int (0 + (i : Int))), some (.ref hp), o4, o5, o6, o7, some (.ref pp), o9, o10, none, none] ∧ Ws T PL qL d wp cp (999999458 - 10000 * i - 100 * i2) G ∧ St T PL d wp G2 G ∧
    (i2 = 0 ∨ ∃ wq ws v6, o5 = some (.ref wq) ∧ o6 = some v6 ∧ ws.length ≤ 8 ∧ (∀ s ∈ ws, s ∈ Pr.namesOf h) ∧ G wq = some (.tup (ws.map V.str)) ∧ IsTh G v6 (hisTh ws (walk (Pr.namesOf h) rows 0 ws)))) ⟨o4, o5, o6, rfl, W2'.le (by omega), St.refl, .inl rfl⟩ (fun i2 σ G hi2 hx => ?_) (fun σ G hx => ?_)
  · obtain ⟨o4, o5, o6, rfl, W3, st3, _⟩ := hx
    refine ⟨_, rfl, _, rfl, d, wp, cp, 999999440 - 10000 * i - 100 * i2, 8, .ref hp, h, rfl, by decide, (W2'.soft W3 st3).th hh2, Dh.ok, n1, dr_le (by omega) W3.dr, fun wq ws G4 lw hws hq D4 B4 => ?_⟩
    have ⟨W4, st4'⟩ := W3.but B4 D4
    have st4 := st3.trans st4'
    have hwn : ∀ s ∈ ws, Nam s := fun s hs => Dh.nam s (hws s hs)
    have hen : ∀ e ∈ walk (Pr.namesOf h) rows 0 ws, Nam e.1 := fun e he => ((walk_ok PD ws 0 PD.one hws).1 e he).1
    have hel : (walk (Pr.namesOf h) rows 0 ws).length = ws.length := walk_len _ _ _ _
    obtain ⟨kh1, kh2, kh3⟩ := his_ok hwn hen (show ws.length ≤ 1000 by omega)
    obtain ⟨ka1, ka2, ka3⟩ := ans_ok hen (show (walk (Pr.namesOf h) rows 0 ws).length ≤ 1000 by omega)
    refine ⟨_, rfl, _, rfl, .ref pp, h, rows, wq, ws, rfl, (W2'.soft W4 st4).th hp2, PD, hq, hws, by omega, fun v6 G5 k5 h6 => ?_⟩
    have ⟨W5, st5'⟩ := W4.kp k5
    have st5 := st4.trans st5'
    obtain ⟨a6, rfl, t6⟩ := dt_his h6
    -- repr(history) against repr(due)
    refine ⟨_, rfl, _, rfl, .ref pp, .ref wq, rfl, W5.tb, .inr ⟨h, rows, wq, ws, rfl, (W2'.soft W5 st5).th hp2, PD, k5 _ _ hq, hws, by omega, fun v G6 g6 hv => ?_⟩⟩
    have ⟨W6, st6'⟩ := W5.go hT g6
    have st6 := st5.trans st6'
    obtain ⟨av, rfl, tv⟩ := dt_his hv
    have h66 := (W5.soft W6 st6').th h6
    obtain ⟨_, e66, t66⟩ := dt_his h66
    cases e66
    refine ⟨av, _, rfl, tv, kh1, kh2, kh3, _, rfl, a6, _, rfl, t66, kh1, kh2, kh3, rfl, _, rfl, iteF' (by simp) ?_⟩
    -- repr(answers) against repr(tuple(...))
    have hq6 := (W5.soft W6 st6').tup _ _ (k5 _ _ hq)
    refine ⟨_, rfl, _, rfl, .ref pp, .ref wq, rfl, W6.tb, .inr ⟨h, rows, wq, ws, rfl, (W2'.soft W6 st6).th hp2, PD, hq6, hws, by omega, fun v G7 g7 hv7 => ?_⟩⟩
    have ⟨W7, st7'⟩ := W6.go hT g7
    have st7 := st6.trans st7'
    obtain ⟨av7, rfl, tv7⟩ := dt_ans hv7
    have h67 := (W6.soft W7 st7').th h66
    refine ⟨av7, _, rfl, tv7, ka1, ka2, ka3, cb1 (step_lc (K := K) h67 hel (by omega) hen fun v8 G8 k8' hv8 => ?_)⟩
    have ⟨W8, st8'⟩ := W7.kp k8'
    have st8 := st7.trans st8'
    obtain ⟨av8, rfl, tv8⟩ := dt_ans hv8
    refine ⟨av8, _, rfl, tv8, ka1, ka2, ka3, rfl, _, rfl, iteF' (by simp) ?_⟩
    -- repr(state_behind) against repr(...)
    have hq8 := (W6.soft W8 (st7'.trans st8')).tup _ _ hq6
    have hst := (walk_ok PD ws 0 PD.one hws).2
    have lg4 : ((stAt (Pr.namesOf h) rows 0 ws : Nat) : Int).natAbs.log2 < 1920 := by
      have q : stAt (Pr.namesOf h) rows 0 ws < 4 := by omega
      generalize stAt (Pr.namesOf h) rows 0 ws = x at q
      match x, q with
      | 0, _ => decide
      | 1, _ => decide
      | 2, _ => decide
      | 3, _ => decide
    refine ⟨_, rfl, _, rfl, .ref pp, .ref wq, rfl, W8.tb, .inr ⟨h, rows, wq, ws, rfl, (W2'.soft W8 st8).th hp2, PD, hq8, hws, by omega, fun G9 g9 => ?_⟩⟩
    have ⟨W9, st9'⟩ := W8.go hT g9
    have st9 := st8.trans st9'
    refine ⟨_, rfl, lg4, ?_⟩
    refine ⟨_, rfl, _, rfl, .ref pp, h, rows, wq, ws, rfl, (W2'.soft W9 st9).th hp2, PD, (W8.soft W9 st9').tup _ _ hq8, hws, by omega, fun G10 k10' => ?_⟩
    have ⟨W10, st10'⟩ := W9.kp k10'
    have st10 := st9.trans st10'
    refine ⟨_, rfl, lg4, rfl, _, rfl, iteF' (by simp) ?_⟩
    have hq10 := (W8.soft W10 (st9'.trans st10')).tup _ _ hq8
    refine ⟨_, _, _, rfl, W10.le (by omega), st10, .inr ⟨wq, ws, .ref a6, rfl, rfl, lw, hws, hq10, (W7.soft W10 (st8'.trans (st9'.trans st10'))).th h67⟩⟩
  obtain ⟨o4, o5, o6, rfl, W3, st3, hx⟩ := hx
  obtain ⟨wq, ws, v6, rfl, rfl, lw, hws, hq, h6⟩ := hx.resolve_left (by decide)
  have hwn : ∀ s ∈ ws, Nam s := fun s hs => Dh.nam s (hws s hs)
  have hen : ∀ e ∈ walk (Pr.namesOf h) rows 0 ws, Nam e.1 := fun e he => ((walk_ok PD ws 0 PD.one hws).1 e he).1
  have hel : (walk (Pr.namesOf h) rows 0 ws).length = ws.length := walk_len _ _ _ _
  -- history by names
  refine ⟨_, rfl, _, rfl, .ref pp, .ref wq, rfl, W3.tb, .inr ⟨h, rows, wq, ws, rfl, (W2'.soft W3 st3).th hp2, PD, hq, hws, by omega, fun v G4 g4 hv => ?_⟩⟩
  have ⟨W4, st4'⟩ := W3.go hT g4
  have st4 := st3.trans st4'
  have h64 := (W3.soft W4 st4').th h6
  refine ⟨_, rfl, _, _, dp_his hv, dp_his h64, his_shaped hwn hen, his_shaped hwn hen, _, rfl, iteF' (by rw [sh_eq (his_shaped hwn hen)]; rfl) ?_⟩
  -- answers by names
  have hq4 := (W3.soft W4 st4').tup _ _ hq
  refine ⟨_, rfl, _, rfl, .ref pp, .ref wq, rfl, W4.tb, .inr ⟨h, rows, wq, ws, rfl, (W2'.soft W4 st4).th hp2, PD, hq4, hws, by omega, fun v5 G5 g5 hv5 => ?_⟩⟩
  have ⟨W5, st5'⟩ := W4.go hT g5
  have st5 := st4.trans st5'
  have h65 := (W4.soft W5 st5').th h64
  obtain ⟨a6, rfl, t6⟩ := dt_his h6
  refine step_lc (K := K) h65 hel (by omega) hen fun v8 G6 k6' hv8 => ?_
  have ⟨W6, st6'⟩ := W5.kp k6'
  have st6 := st5.trans st6'
  refine ⟨_, _, dp_ans ((W5.soft W6 st6').th hv5), dp_ans hv8, ans_shaped hen, ans_shaped hen, _, rfl, iteF' (by rw [sh_eq (ans_shaped hen)]; rfl) ?_⟩
  -- the state by names
  have hq6 := (W4.soft W6 (st5'.trans st6')).tup _ _ hq4
  refine ⟨_, rfl, _, rfl, .ref pp, .ref wq, rfl, W6.tb, .inr ⟨h, rows, wq, ws, rfl, (W2'.soft W6 st6).th hp2, PD, hq6, hws, by omega, fun G7 g7 => ?_⟩⟩
  have ⟨W7, st7'⟩ := W6.go hT g7
  have st7 := st6.trans st7'
  have hq7 := (W6.soft W7 st7').tup _ _ hq6
  refine ⟨_, rfl, _, rfl, .ref pp, h, rows, wq, ws, rfl, (W2'.soft W7 st7).th hp2, PD, hq7, hws, by omega, fun G8 k8' => ?_⟩
  have ⟨W8, st8'⟩ := W7.kp k8'
  have st8 := st7.trans st8'
  refine ⟨rfl, _, rfl, iteF' (by simp) ?_⟩
  refine ⟨_, rfl, .ref pp, pT h rows, rfl, (W2'.soft W8 st8).th hp2, W8.tb, fun G9 g9 => ?_⟩
  have ⟨W9, st9'⟩ := W8.go hT g9
  have st9 := st8.trans st9'
  refine ⟨_, _, rfl, rfl, _, rfl, iteF' (by rw [progT_D PD]; rfl) ?_⟩
  have hq9 := (W7.soft W9 (st8'.trans st9')).tup _ _ hq7
  -- things bent
  refine ⟨_, rfl, by decide, by decide, ?_⟩
  refine for_range (lo := 0) (n := 4) (fun i4 σ G => ∃ o4 o10 : Option V, σ = [some (.ref a), some (.ref d), some (.int (0 + (i : Int))), some (.ref hp), o4, some (.ref wq), some (.ref a6), o7, some (.ref pp), o9, o10, none, none] ∧ Ws T PL qL d wp cp (999999158 - 10000 * i - 100 * i4) G ∧ St T PL d wp G9 G ∧
    (i4 = 0 ∨ ∃ y t, o10 = some y ∧ IsTh G y t)) ⟨o4, o10, rfl, W9.le (by omega), St.refl, .inl rfl⟩ (fun i4 σ G hi4 hx4 => ?_) (fun σ G hx4 => ?_)
  · obtain ⟨o4, o10, rfl, Wa, sta, _⟩ := hx4
    have so := W2'.soft Wa (st9.trans sta)
    refine sa1 (thing_te (K := K) (n := 999999149 - 10000 * i - 100 * i4) (fun i j H Q q => ⟨i, j, rfl, rfl, q⟩) (so.th hh2) (so.th hp2) PD lr (dr_le (by omega) Wa.dr) fun y t Gb ht Db Bb => ?_)
    have ⟨Wb, stb⟩ := Wa.but Bb Db
    refine ⟨_, rfl, y, t, rfl, ht, Wb.tb, fun Gc gc => ?_⟩
    have ⟨Wc, stc⟩ := Wb.go hT gc
    refine ⟨_, rfl, y, t, rfl, (Wb.soft Wc stc).th ht, fun Gd kd' => ?_⟩
    have ⟨Wd, std⟩ := Wc.kp kd'
    refine ⟨rfl, _, rfl, iteF' (by simp) ?_⟩
    refine ⟨_, rfl, y, t, rfl, (Wb.soft Wd (stc.trans std)).th ht, Wd.tb, fun Ge ge => ?_⟩
    have ⟨We, ste⟩ := Wd.go hT ge
    refine ⟨_, rfl, y, t, rfl, (Wb.soft We (stc.trans (std.trans ste))).th ht, fun Gf kf' => ?_⟩
    have ⟨Wf, stf⟩ := We.kp kf'
    refine ⟨rfl, _, rfl, iteF' (by simp) ?_⟩
    have stx := stb.trans (stc.trans (std.trans (ste.trans stf)))
    exact ⟨_, _, rfl, Wf.le (by omega), sta.trans stx, .inr ⟨y, t, rfl, (Wb.soft Wf (stc.trans (std.trans (ste.trans stf)))).th ht⟩⟩
  obtain ⟨o4, o10, rfl, Wa, sta, hx4⟩ := hx4
  obtain ⟨y, t, rfl, ht⟩ := hx4.resolve_left (by decide)
  have so := W2'.soft Wa (st9.trans sta)
  have hqa := (W9.soft Wa sta).tup _ _ hq9
  refine ⟨_, rfl, _, rfl, _, rfl, d, wp, cp, wq, 999998757 - 10000 * i, .ref hp, h, ws, rfl, so.th hh2, Dh, hqa, hws, by omega, dr_le (by omega) Wa.dr, fun sv Gb bad Db Bb => ?_⟩
  have ⟨Wb, stb⟩ := Wa.but Bb Db
  obtain ⟨_, badT, badF⟩ := bad
  have hpb := (Wa.soft Wb stb).th (so.th hp2)
  have htb := (Wa.soft Wb stb).th ht
  -- the first group
  refine ⟨Wb.tl, fun fA cA Gc kc' tlc nfA hfA hcA => ⟨(show 1 ≤ sizeLine by decide), fun L nL => ?_⟩⟩
  obtain ⟨nb, nw1, nc1, W0, st0, x0⟩ := lam_first (L := L) Wb hT kc' tlc nL [.ref fA]
  have hL0 : (upd Gc L (.lst [.ref fA])) L = some (.lst [.ref fA]) := upd_same
  have qA := x0 _ _ hfA
  have qcA := x0 _ _ hcA
  generalize upd Gc L (.lst [.ref fA]) = G0 at W0 st0 hL0 qA qcA ⊢
  refine ⟨_, rfl, Or.inl ⟨rfl, _, SqL.of hL0⟩, W0.tl, fun fB cB Gd kd' tld nfB hfB hcB => ?_⟩
  obtain ⟨hLd, W1'', st1'', y1, x1⟩ := lam_step W0 hT st0 nb nw1 nc1 hL0 kd' tld [.ref fA, .ref fB]
  refine ⟨L, _, _, rfl, rfl, hLd, (show 1 + 1 ≤ sizeLine by decide), ?_⟩
  have qA1 := y1 _ _ qA
  have qcA1 := y1 _ _ qcA
  have qB1 := x1 _ _ hfB
  have qcB1 := x1 _ _ hcB
  have hL1 : (upd Gd L (.lst [.ref fA, .ref fB])) L = some (.lst [.ref fA, .ref fB]) := upd_same
  refine ⟨_, rfl, Or.inl ⟨rfl, _, SqL.of hL1⟩, W1''.tl, fun fC cC Ge ke' tle nfC hfC hcC => ?_⟩
  obtain ⟨hLe, Wz, stz, y2, x2⟩ := lam_step W1'' hT st1'' nb nw1 nc1 hL1 ke' tle [.ref fA, .ref fB, .ref fC]
  refine ⟨L, _, _, rfl, rfl, hLe, (show 2 + 1 ≤ sizeLine by decide), ?_⟩
  have hf : ∀ j : Fin 3, (upd Ge L (.lst [.ref fA, .ref fB, .ref fC])) (tri fA fB fC j) = some (LamO (tri fA fB fC j) qL (lPar (lam1 j)) (lBody (lam1 j)) (lScope (lam1 j)) (clG lam1 s.heap.objs.size fa c j) (tri cA cB cC j)) ∧ (upd Ge L (.lst [.ref fA, .ref fB, .ref fC])) (tri cA cB cC j) = some (LamX.CodeO (tri cA cB cC j) qL) := tri_hf ⟨y2 _ _ qA1, y2 _ _ qcA1⟩ ⟨y2 _ _ qB1, y2 _ _ qcB1⟩ ⟨x2 _ _ hfC, x2 _ _ hcC⟩
  have hLz : (upd Ge L (.lst [.ref fA, .ref fB, .ref fC])) L = some (.lst [.ref (tri fA fB fC 0), .ref (tri fA fB fC 1), .ref (tri fA fB fC 2)]) := upd_same
  have sob := Wb.soft Wz stz
  refine ⟨[some (.ref pp), some sv], fun pins s' H' I => phi_of (js := [8, 9]) I rfl rfl rfl (by decide +kernel) rfl, grp_test (K := K) (CC := CW) hLz hf Wz.tb (sob.th hpb) (sob.th badT) (.inr ⟨progT_D PD, badF, rfl⟩) xW eW iW fun D1 Gf gf hD1 => ?_⟩
  have ⟨Wf, stf⟩ := Wz.go hT gf
  refine ⟨Nat.zero_le _, fun M nM => ⟨.list [], .list [], .lst (SqL.of (show (upd Gf M (.lst [])) D1 = some (.lst []) from (Kp.refl.new nM) _ _ hD1)) .nil, .lst (SqL.of upd_same) .nil, by decide +kernel, by decide +kernel, _, rfl, iteF' (by decide +kernel) ?_⟩⟩
  have ⟨Wg, stg⟩ := Wf.kp (show Kp Gf (upd Gf M (.lst [])) from Kp.refl.new nM)
  have sog := Wb.soft Wg (stz.trans (stf.trans stg))
  have htg := sog.th htb
  have hbg := sog.th badT
  generalize upd Gf M (.lst []) = Gg at Wg htg hbg ⊢
  clear hLz hf
  refine ⟨_, rfl, y, t, rfl, htg, fun Gh kh => ⟨_, rfl, ?_⟩⟩
  have ⟨Wh, sth⟩ := Wg.kp kh
  have hth := kh.th htg
  have hbh := kh.th hbg
  cases ept : progT t with
  | true => exact iteF' rfl ⟨_, _, _, _, _, _, _, _, _, rfl, Wh.le (by omega)⟩
  | false =>
    refine iteT' rfl ?_
    refine ⟨Wh.tl, fun fA cA Gc kc' tlc nfA hfA hcA => ⟨(show 1 ≤ sizeLine by decide), fun L nL => ?_⟩⟩
    obtain ⟨nb, nw1, nc1, W0, st0, x0⟩ := lam_first (L := L) Wh hT kc' tlc nL [.ref fA]
    have hL0 : (upd Gc L (.lst [.ref fA])) L = some (.lst [.ref fA]) := upd_same
    have qA := x0 _ _ hfA
    have qcA := x0 _ _ hcA
    generalize upd Gc L (.lst [.ref fA]) = G0 at W0 st0 hL0 qA qcA ⊢
    refine ⟨_, rfl, Or.inl ⟨rfl, _, SqL.of hL0⟩, W0.tl, fun fB cB Gd kd' tld nfB hfB hcB => ?_⟩
    obtain ⟨hLd, W1'', st1'', y1, x1⟩ := lam_step W0 hT st0 nb nw1 nc1 hL0 kd' tld [.ref fA, .ref fB]
    refine ⟨L, _, _, rfl, rfl, hLd, (show 1 + 1 ≤ sizeLine by decide), ?_⟩
    have qA1 := y1 _ _ qA
    have qcA1 := y1 _ _ qcA
    have qB1 := x1 _ _ hfB
    have qcB1 := x1 _ _ hcB
    have hL1 : (upd Gd L (.lst [.ref fA, .ref fB])) L = some (.lst [.ref fA, .ref fB]) := upd_same
    refine ⟨_, rfl, Or.inl ⟨rfl, _, SqL.of hL1⟩, W1''.tl, fun fC cC Ge ke' tle nfC hfC hcC => ?_⟩
    obtain ⟨hLe, Wz, stz, y2, x2⟩ := lam_step W1'' hT st1'' nb nw1 nc1 hL1 ke' tle [.ref fA, .ref fB, .ref fC]
    refine ⟨L, _, _, rfl, rfl, hLe, (show 2 + 1 ≤ sizeLine by decide), ?_⟩
    have hf : ∀ j : Fin 3, (upd Ge L (.lst [.ref fA, .ref fB, .ref fC])) (tri fA fB fC j) = some (LamO (tri fA fB fC j) qL (lPar (lam2 j)) (lBody (lam2 j)) (lScope (lam2 j)) (clG lam2 s.heap.objs.size fa c j) (tri cA cB cC j)) ∧ (upd Ge L (.lst [.ref fA, .ref fB, .ref fC])) (tri cA cB cC j) = some (LamX.CodeO (tri cA cB cC j) qL) := tri_hf ⟨y2 _ _ qA1, y2 _ _ qcA1⟩ ⟨y2 _ _ qB1, y2 _ _ qcB1⟩ ⟨x2 _ _ hfC, x2 _ _ hcC⟩
    have hLz : (upd Ge L (.lst [.ref fA, .ref fB, .ref fC])) L = some (.lst [.ref (tri fA fB fC 0), .ref (tri fA fB fC 1), .ref (tri fA fB fC 2)]) := upd_same
    have sob := Wh.soft Wz stz
    refine ⟨[some y, some sv], fun pins s' H' I => phi_of (js := [10, 9]) I rfl rfl rfl (by decide +kernel) rfl, grp_test (K := K) (CC := CP) hLz hf Wz.tb (sob.th hth) (sob.th hbh) (.inl ⟨ept, rfl⟩) xP eP iP fun D1 Gf gf hD1 => ?_⟩
    have ⟨Wf, stf⟩ := Wz.go hT gf
    refine ⟨Nat.zero_le _, fun M nM => ⟨.list [], .list [], .lst (SqL.of (show (upd Gf M (.lst [])) D1 = some (.lst []) from (Kp.refl.new nM) _ _ hD1)) .nil, .lst (SqL.of upd_same) .nil, by decide +kernel, by decide +kernel, _, rfl, iteF' (by decide +kernel) ?_⟩⟩
    have ⟨Wg, stg⟩ := Wf.kp (show Kp Gf (upd Gf M (.lst [])) from Kp.refl.new nM)
    exact ⟨_, _, _, _, _, _, _, _, _, rfl, Wg.le (by omega)⟩
end
end Ly

set_option Elab.async false
set_option linter.all false
set_option maxRecDepth 100000
set_option maxHeartbeats 2000000
/-! The law's own frame, where tables of code objects are tracked from the start. -/
namespace Lt
open PySem PySem.Spec PyProof.Rows L2 GxR
section
variable {P : Program} {w : World} {K : PySem.W.Frag} {mg mb : Str → Option Value} {fa a : Addr} {s : Shared} {vs : List Value} {ns : List Int} {ts : List (Addr × Addr)}
def LawAtT (P : Program) (w : World) (K : PySem.W.Frag) (mg : Str → Option Value) (fa : Addr) (ts : List (Addr × Addr)) : Prop := ∀ (base : Heap) (s : Shared) (H : Hp) (a : Addr) (ns : List Int), K.In base → base.Ns mainGlobals mg → (∃ mm, base.Ns sysModules mm) → (∀ p ∈ ts, TabB base mg p.1 p.2) → (∀ p ∈ ts, H p.2 = some (.tbl #[])) → Env0 P w K mg base callerA [] s H → SqL K H a (ns.map V.int) → ns.length ≤ 63 →
  codeAny (model P w) callerA (.call (.ref fa) ⟨[.ref a], []⟩) (CR CX0 [] P w H s (fun v _ => v = .bl true) E0) s
theorem law_hereT (L : LawAtT P w K mg fa ts) (KX : K.In s.heap) (hns : s.heap.Ns mainGlobals mg) (hb : s.heap.Ns builtinsNs mb) (hbb : ∀ x : Str, x ≠ "__name__" → mb x = bootBuiltins x) (hlim : s.heap.NoLimit) (hsm : ∃ mm, s.heap.Ns sysModules mm) (hg : s.gens = #[])
    (hT : ∀ p ∈ ts, s.heap.get? p.2 = some { cls := .none, data := .fields #[] }) (nT : ∀ p ∈ ts, K.lookup p.2 = none) (C : ∀ p ∈ ts, PySem.W.CodeHd s.heap p.1 p.2)
    (hbm : ∃ (bm : Addr) (ob : Obj), mg "__builtins__" = some (.ref bm) ∧ bm ≠ builtinsNs ∧ s.heap.get? bm = some ob ∧ ob.cls = .type "module" ∧ ob.dict = some builtinsNs ∧ ob.data = .plain)
    (ha : s.heap.get? a = some { cls := .type "list", data := .seq vs.toArray }) (hi : IntsAre vs ns) (hl : ns.length ≤ 63) :
    codeAny (model P w) callerA (.call (.ref fa) ⟨[.ref a], []⟩) (fun r s' => r = .ok (.ret (.bool true)) ∧ OldK s.heap s'.heap ∧ s'.os = s.os ∧ AllBare s'.gens) s := by
  have l63 : ns.length ≤ sizeLine := Nat.le_trans hl (by decide)
  let isT : Addr → Prop := fun b => ∃ p ∈ ts, p.2 = b
  have tabOf : ∀ b, isT b → s.heap.get? b = some { cls := .none, data := .fields #[] } ∧ K.lookup b = none := fun b ⟨p, hp, e⟩ => by rw [← e]; exact ⟨hT p hp, nT p hp⟩
  have aT : ¬ isT a := fun y => by
    have q := (tabOf a y).1
    rw [ha] at q; cases q
  suffices main : ∀ H : Hp, (∀ b, isT b → H b = some (.tbl #[])) → (∀ b u, H b = some u → (isT b ∧ u = .tbl #[]) ∨ (b = a ∧ u = .frz { cls := .type "list", data := .seq vs.toArray } (.lst (ns.map V.int)) ∧ K.lookup a = none)) → SqL K H a (ns.map V.int) → codeAny (model P w) callerA (.call (.ref fa) ⟨[.ref a], []⟩) (fun r s' => r = .ok (.ret (.bool true)) ∧ OldK s.heap s'.heap ∧ s'.os = s.os ∧ AllBare s'.gens) s by
    classical
    cases hk : K.lookup a with
    | some o =>
      have e := (KX a o hk).symm.trans ha
      cases e
      refine main (fun b => if isT b then some (.tbl #[]) else none) (fun b y => if_pos y) (fun b u z => ?_) (.inr ⟨_, vs.toArray, _, hk, rfl, rfl, rfl, ?_, by simpa using vals_ints hi⟩)
      · by_cases y : isT b
        · exact .inl ⟨y, (Option.some.inj ((if_pos y).symm.trans z)).symm⟩
        · exact nomatch (if_neg y).symm.trans z
      · rw [List.size_toArray, hi.length]; exact l63
    | none =>
      refine main (fun b => if isT b then some (.tbl #[]) else if b = a then some (.frz { cls := .type "list", data := .seq vs.toArray } (.lst (ns.map V.int))) else none) (fun b y => if_pos y) (fun b u z => ?_) (.inl (.inr ⟨_, (if_neg aT).trans (if_pos rfl)⟩))
      by_cases y : isT b
      · exact .inl ⟨y, (Option.some.inj ((if_pos y).symm.trans z)).symm⟩
      · have z := (if_neg y).symm.trans z
        by_cases e : b = a
        · exact .inr ⟨e, (Option.some.inj ((if_pos e).symm.trans z)).symm, hk⟩
        · exact nomatch (if_neg e).symm.trans z
  intro H hH hO hS
  have keep : ∀ {b o}, s.heap.get? b = some o → o.data ≠ .fields #[] → (∀ xs n, o.data ≠ .seq xs n) → (hidT s.heap H).get? b = some o := fun {b o} e h1 h2 => by
    refine hidT_get e ?_
    cases q : H b with
    | none => rfl
    | some u =>
      rcases hO b u q with ⟨y, _⟩ | ⟨rfl, _⟩
      · rw [(tabOf b y).1] at e; cases e; exact (h1 rfl).elim
      · rw [ha] at e; cases e; exact (h2 _ _ rfl).elim
  have nsB : ∀ {b : Addr} {m : Str → Option Value}, s.heap.Ns b m → (hidT s.heap H).Ns b m := fun {b m} ⟨o, es, ep, e, d, r⟩ => ⟨o, es, ep, keep e (by rw [d]; exact fun z => nomatch z) (by rw [d]; exact fun _ _ z => nomatch z), d, r⟩
  have KB : K.In (hidT s.heap H) := fun b o e => by
    refine hidT_get (KX b o e) ?_
    cases q : H b with
    | none => rfl
    | some u =>
      rcases hO b u q with ⟨y, _⟩ | ⟨rfl, _, hk⟩
      · rw [(tabOf b y).2] at e; cases e
      · rw [hk] at e; cases e
  have hok : HOk P w H s.heap := fun b u e => by
    rcases hO b u e with ⟨y, rfl⟩ | ⟨rfl, rfl, _⟩
    · exact (tabOf b y).1
    · exact ⟨ha, by rw [List.length_map]; exact l63, vs, _, vals_ints hi, ha⟩
  have M : Mod K mg (hidT s.heap H) := ⟨KB, nsB hns, ⟨mb, nsB hb, hbb⟩, (fun ⟨mc, h1, h2⟩ => ⟨mc, nsB h1, h2⟩) hlim⟩
  have TB : ∀ p ∈ ts, TabB (hidT s.heap H) mg p.1 p.2 := fun p hp => by
    refine ⟨?_, ?_, fun z => ?_⟩
    · obtain ⟨o, us, file, tf, flags, tg, inF, text, tt, q1, q2, q3, q4, r⟩ := C p hp
      refine ⟨o, us, file, tf, flags, tg, inF, text, tt, keep q1 (fun z => ?_) (fun _ _ z => ?_), q2, q3, q4, r⟩
      · rw [q3] at z; injection z with z; rw [z] at q4; simp at q4
      · rw [q3] at z; cases z
    · obtain ⟨bm, ob, q1, q2, q3, q4, q5, q6⟩ := hbm
      refine ⟨bm, ob, q1, q2, fun y => ?_, fun y => ?_, keep q3 (by rw [q6]; exact fun z => nomatch z) (by rw [q6]; exact fun _ _ z => nomatch z), q4, q5, q6⟩
      · obtain ⟨o, es, ep, e, hd, _⟩ := hns
        rw [y, e] at q3; cases q3
        rw [hd] at q6; cases q6
      · rw [y, hT p hp] at q3; cases q3; cases q6
    · obtain ⟨o, es, ep, e, hd, _⟩ := hns
      rw [z, hT p hp] at e; cases e; cases hd
  have e0 : Env0 P w K mg (hidT s.heap H) callerA [] s H := ⟨rfl, M, fun b o e => of_hidT e, Nat.le_of_eq (hidT_size _ _), trivial, (fun b hb => absurd (show b ∈ ([] : List Addr) from hb) (by simp)), hok, AllBare.of_eq hg⟩
  refine codeAny_mono (L _ s H a ns KB (nsB hns) (hsm.imp fun _ z => nsB z) TB (fun p hp => hH p.2 ⟨p, hp, rfl⟩) e0 hS hl) fun r s' h => ?_
  cases r with
  | error e => exact (show False from h).elim
  | ok fl =>
    cases fl with
    | next => exact (show False from h).elim
    | brk => exact (show False from h).elim
    | cont => exact (show False from h).elim
    | ret u =>
      obtain ⟨v, H', os, bare, un, hok', r', rfl⟩ := h
      obtain rfl : u = Value.bool true := r'
      have grown : ∀ b, isT b → ∃ more : Array Value, s'.heap.get? b = some { cls := .none, data := .fields more } := fun b y => by
        obtain ⟨more, z⟩ := un.tbls b #[] (hH b y)
        exact ⟨_, hok' b _ z⟩
      have same : ∀ b o, ¬ isT b → s.heap.get? b = some o → s'.heap.get? b = some o := fun b o nb e => by
        cases q : H b with
        | none => exact un.keep b o e q (fun z => nomatch (show b ∈ ([] : List Addr) from z)) (fun z => nomatch z)
        | some u =>
          rcases hO b u q with ⟨y, _⟩ | ⟨rfl, rfl, _⟩
          · exact (nb y).elim
          · have z := hok' b _ (un.frzs b _ _ q)
            rw [ha] at e; cases e
            exact z.1
      refine ⟨rfl, ⟨fun b o e => ?_, fun b o e => ?_⟩, os, bare⟩
      · rcases Classical.em (isT b) with y | y
        · obtain ⟨more, hm⟩ := grown b y
          obtain ⟨p, hp, rfl⟩ := y
          rw [hT p hp] at e; cases e
          exact .inr (.inl ⟨((C p hp).tab (hT p hp)).isCodeTable, rfl, #[], more, rfl, by rw [Array.empty_append]; exact hm⟩)
        · exact .inl (same b o y e)
      · rcases Classical.em (isT b) with y | y
        · obtain ⟨more, hm⟩ := grown b y
          exact ⟨_, hm⟩
        · exact ⟨o, same b o y e⟩
/-- the law over a head by facts -/
theorem walk_hereT {l : PySem.W.OpenLaw} {q : Program} {loose : List Str} {XP : (Str → Option Value) → Heap → Prop} {YP : World → Heap → Prop} {d : DefRec} (hn : l.most = some 63) (hdf : d.params.defaults = []) (hin : PyProof.Rows.importsNone q = true)
    (F : ∀ (w : World) (mg : Str → Option Value) (fa : Addr) (h : Heap), YP w h → h.Ns mainGlobals mg → mg d.name = some (.ref fa) → ∃ (K : PySem.W.Frag) (ts : List (Addr × Addr)), K.In h ∧ (∀ p ∈ ts, h.get? p.2 = some { cls := .none, data := .fields #[] }) ∧ (∀ p ∈ ts, K.lookup p.2 = none) ∧ (∀ p ∈ ts, PySem.W.CodeHd h p.1 p.2) ∧ LawAtT l.prog w K mg fa ts) :
    PySem.W.WalkO q loose XP YP l.row.toRowW d [] (fun f vs => PySem.call f vs) := by
  refine Att.attach_call hn hdf fun w s₀ s₁ mg mb fa o pm cd doc a vs ns G Y ho hd hcd hmg hobj hints hlen hg => ?_
  obtain ⟨K, ts, KX, h1, h2, h3, L⟩ := F w mg fa _ Y G.T.g hmg
  exact law_hereT L KX G.T.g G.T.b G.T.builtins G.T.nolimit ((G.T.seer hin).mods.imp fun _ z => z.1) hg h1 h2 h3 G.T.bmain hobj hints hlen
end
end Lt

set_option Elab.async false
set_option linter.all false
set_option maxRecDepth 100000
set_option maxHeartbeats 4000000
namespace Kh
open PySem PySem.Spec PyProof.Rows L2 Sx Rp Dw NdefX GxR Rw Nm Kd An
theorem and2 {a b : Bool} (h : (a && b) = true) : a = true ∧ b = true := by simpa using h
section
variable {P : Program} {w : World} {K : PySem.W.Frag} {mg : Str → Option Value} {base h : Heap}
theorem fun_of {st : Stmt} {x : Str} (h1 : defB K x = true) (h2 : fwOf K (addrOf K x) = fwVal st x x []) : PySem.W.nsIn K mainGlobals x = some (some (.ref (addrOf K x))) ∧ ∃ fd, Fun K x x st (addrOf K x) fd := by
  unfold defB at h1
  obtain ⟨h1, h1'⟩ := and2 h1
  obtain ⟨hk, h1'⟩ := and2 h1'
  refine ⟨of_decide_eq_true h1, ?_⟩
  clear h1
  unfold fwOf fwVal at h2
  generalize addrOf K x = f at *
  cases e : K.lookup f with
  | none => rw [e] at h1'; cases h1'
  | some o =>
    obtain ⟨oc, od, dt, sl⟩ := o
    rw [e] at h1' h2
    cases dt with
    | func fd =>
      dsimp only at h1' h2
      obtain ⟨hc, hd⟩ := and2 h1'
      have hd := of_decide_eq_true hd
      obtain ⟨nm, qn, pr, bd, sc, gl, cl, df, kd, doc, pm, an, cd, ct, bi⟩ := fd
      dsimp only at hd h2 hc
      simp only [Option.some.injEq, Prod.mk.injEq] at h2
      obtain ⟨e1, e2, e3, e4, e5, e6, e7, e8⟩ := h2
      have e7 := List.map_eq_nil_iff.mp e7
      rw [e1, e2, e3, e4, e5, e6, e7, e8, hd] at e
      exact ⟨_, ⟨⟨oc, od, kd, doc, pm, an, cd, ct, sl, rfl, e, hc⟩, hk⟩⟩
    | _ => cases h1'
theorem vals_of : ∀ (us : List Value) (l : List Str), (us.map (fun v => match v with
    | .str s _ => some s
    | _ => none) = l.map some) → Vals (l.map V.str) us
  | [], [], _ => .nil
  | [], s :: l, e => by simp at e
  | u :: us, [], e => by simp at e
  | u :: us, s :: l, e => by
    rw [List.map_cons, List.map_cons, List.cons.injEq] at e
    obtain ⟨e1, e2⟩ := e
    cases u with
    | str z t => obtain rfl : z = s := by injection e1
                 exact .cons ⟨t, rfl⟩ (vals_of us l e2)
    | _ => cases e1
theorem kept_of (h1 : keptB K = true) : PySem.W.nsIn K mainGlobals "KEPT" = some (some (.ref (addrOf K "KEPT"))) ∧ ∀ H, SqT K H (addrOf K "KEPT") keptV := by
  unfold keptB at h1
  obtain ⟨h1, h2⟩ := and2 h1
  refine ⟨of_decide_eq_true h1, fun H => ?_⟩
  clear h1
  generalize addrOf K "KEPT" = a at *
  split at h2
  · rename_i us n sl hl
    have e := of_decide_eq_true h2
    have len : us.toList.length = keptS.length := by simpa using congrArg List.length e
    refine .inr ⟨_, us, _, hl, rfl, rfl, ?_, vals_of _ _ e⟩
    have k : keptS.length ≤ 100 := by decide +kernel
    rw [← Array.length_toList, len, sizeLine_eq]; omega
  · cases h2
theorem tab_of {g : Addr → Option Obj} (X : K.In h) (hg : ∀ b o, g b = some o → h.get? b = some o) {x : Str} (h1 : tabB K g x = true) : h.get? (tabOf K x) = some { cls := .none, data := .fields #[] } ∧ K.lookup (tabOf K x) = none ∧ PySem.W.CodeHd h (codeOf K x) (tabOf K x) ∧ ∀ oc od fd sl, K.lookup (addrOf K x) = some ⟨oc, od, .func fd, sl⟩ → fd.code = .ref (codeOf K x) := by
  unfold tabB at h1
  obtain ⟨a1, h1⟩ := and2 h1
  obtain ⟨a2, h1⟩ := and2 h1
  obtain ⟨a3, a4⟩ := and2 h1
  refine ⟨?_, by simpa using a4, ?_, fun oc od fd sl e => by rw [e] at a1; exact of_decide_eq_true a1⟩
  · clear a1 a2 a4 h1
    generalize tabOf K x = p at *
    split at a3
    · rename_i vs sl hl
      obtain ⟨b1, b2⟩ := and2 a3
      have e1 : vs = #[] := by simpa using b1
      have e2 : sl = #[] := by simpa using b2
      rw [e1, e2] at hl
      exact hg _ _ hl
    · cases a3
  · clear a1 a3 a4 h1
    generalize tabOf K x = p at *
    generalize codeOf K x = c at *
    split at a2
    · rename_i dd vs sl hl
      obtain ⟨b1, a2⟩ := and2 a2
      obtain ⟨b2, a2⟩ := and2 a2
      obtain ⟨b3, a2⟩ := and2 a2
      obtain ⟨b4, a2⟩ := and2 a2
      obtain ⟨b5, a2⟩ := and2 a2
      obtain ⟨b6, b7⟩ := and2 a2
      split at b3
      · rename_i f tf q3
        split at b4
        · rename_i fl tg q4
          split at b5
          · rename_i bb q5
            split at b6
            · rename_i tx tt q6
              exact ⟨_, vs, f, tf, fl, tg, bb, tx, tt, X _ _ hl, rfl, rfl, of_decide_eq_true b1, of_decide_eq_true b2, q3, q4, q5, q6, of_decide_eq_true b7⟩
            · cases b6
          · cases b5
        · cases b4
      · cases b3
    · cases a2
theorem funT_of {st : Stmt} {x : Str} {fd : FuncData} {c : Addr} (F : Fun K x x st (addrOf K x) fd) (hc : ∀ oc od fd sl, K.lookup (addrOf K x) = some ⟨oc, od, .func fd, sl⟩ → fd.code = .ref c) : FunT K x x st (addrOf K x) c fd := by
  obtain ⟨oc, od, kw, dc, md, an, cd, ct, sl, rfl, lk, h2⟩ := F.ex
  have e := hc _ _ _ _ lk
  have e : cd = .ref c := e
  subst e
  exact ⟨⟨oc, od, kw, dc, md, an, ct, sl, rfl, lk, h2⟩, F.kp⟩
theorem cls_of {x : Str} (h : clsB K x = true) : PySem.W.nsIn K mainGlobals x = some (some (.ref (addrOf K x))) ∧ PySem.W.exmOne K (.ref (addrOf K x)) (.ref (addrOf K "PageError")) = some true ∧ PySem.W.kitOne K (.ref (addrOf K x)) (.ref (addrOf K x)) = some true ∧ OwnE K (addrOf K x) ∧ ExcC K (addrOf K x) := by
  unfold clsB at h
  dsimp only at h
  simp only [Bool.and_eq_true, decide_eq_true_eq] at h
  obtain ⟨h1, h2, h3, h4, h5, h6, h7, h8, h9, h10, h11, h12, h13, h14⟩ := h
  exact ⟨h1, h2, h3, ⟨⟨_, _, _, _, F.excBase_ValueError, h4⟩, h5, h9, h6⟩, ⟨h7, h8, h9, h10, h11, h12, h13, h14⟩⟩
end
end Kh

set_option Elab.async false
set_option linter.all false
set_option maxRecDepth 100000
set_option maxHeartbeats 8000000
namespace Kh
open PySem PySem.Spec PyProof.Rows L2 Sx Rp Dw NdefX GxR Rw Th Kd Gx Nm Hs Pr Ps RZ Lw Lh Lp Lq Ez En An Ah La Lb Li Ln Lo Lr Sb Pa Pp Lz Oa Od Be Bw Lg Ll Wl Lm Lk Ler Is Cf Ww Kw Ky Ly
theorem trip_nil : ∀ pos, PySem.codeAmong pos (#[] : Array Value).toList = none := fun pos => rfl
section
variable {P : Program} {w : World} {K : PySem.W.Frag} {mg : Str → Option Value} {base h : Heap}
theorem law_at (X : K.In h) {g : Addr → Option Obj} (hg : ∀ b o, g b = some o → h.get? b = some o) (G : h.Ns mainGlobals mg) {fa : Addr} (hmg : mg "law" = some (.ref fa)) (e : obsK K g = valK) :
    ∃ ts : List (Addr × Addr), (∀ p ∈ ts, h.get? p.2 = some { cls := .none, data := .fields #[] }) ∧ (∀ p ∈ ts, K.lookup p.2 = none) ∧ (∀ p ∈ ts, PySem.W.CodeHd h p.1 p.2) ∧ Lt.LawAtT P w K mg fa ts := by
  obtain ⟨e1, e2⟩ := Prod.mk.inj e
  simp only [Prod.mk.injEq] at e1
  obtain ⟨h1, h2, h3, h4, h5, h6⟩ := e1
  have D := fun (i : Nat) (x : Str) (m : (i, x) ∈ defL) => List.all_eq_true.mp h1 _ m
  have W := fun (i : Nat) (x : Str) (m : (i, x) ∈ defL) => List.map_inj_left.mp e2 _ m
  clear e2 h1
  obtain ⟨h6, h7⟩ := and2 h6
  have fr : ∀ x, x ∈ freeL → mg x = none := fun x m => PySem.W.mg_none_of X G (of_decide_eq_true (List.all_eq_true.mp h7 x m))
  have mis : mg "isinstance" = none := fr _ (by decide +kernel)
  have mI : mg "int" = none := fr _ (by decide +kernel)
  have mB : mg "bool" = none := fr _ (by decide +kernel)
  have mtu : mg "tuple" = none := fr _ (by decide +kernel)
  have ml : mg "len" = none := fr _ (by decide +kernel)
  have mst : mg "str" = none := fr _ (by decide +kernel)
  have mal : mg "all" = none := fr _ (by decide +kernel)
  have mse : mg "set" = none := fr _ (by decide +kernel)
  have mz : mg "zip" = none := fr _ (by decide +kernel)
  have men : mg "enumerate" = none := fr _ (by decide +kernel)
  have mra : mg "range" = none := fr _ (by decide +kernel)
  have mli : mg "list" = none := fr _ (by decide +kernel)
  have mab : mg "abs" = none := fr _ (by decide +kernel)
  have mmin : mg "min" = none := fr _ (by decide +kernel)
  have mre : mg "repr" = none := fr _ (by decide +kernel)
  obtain ⟨n6, g6, F6⟩ := fun_of (D 6 "is_number" (by decide +kernel)) (W 6 "is_number" (by decide +kernel))
  obtain ⟨n7, g7, F7⟩ := fun_of (D 7 "is_index" (by decide +kernel)) (W 7 "is_index" (by decide +kernel))
  obtain ⟨n8, g8, F8⟩ := fun_of (D 8 "is_tuple_of" (by decide +kernel)) (W 8 "is_tuple_of" (by decide +kernel))
  obtain ⟨n9, g9, F9⟩ := fun_of (D 9 "is_told" (by decide +kernel)) (W 9 "is_told" (by decide +kernel))
  obtain ⟨n10, g10, F10⟩ := fun_of (D 10 "is_string_among" (by decide +kernel)) (W 10 "is_string_among" (by decide +kernel))
  obtain ⟨n13, g13, F13⟩ := fun_of (D 13 "is_name" (by decide +kernel)) (W 13 "is_name" (by decide +kernel))
  obtain ⟨n15, g15, F15⟩ := fun_of (D 15 "are_names" (by decide +kernel)) (W 15 "are_names" (by decide +kernel))
  obtain ⟨n16, g16, F16⟩ := fun_of (D 16 "is_call" (by decide +kernel)) (W 16 "is_call" (by decide +kernel))
  obtain ⟨n17, g17, F17⟩ := fun_of (D 17 "is_house" (by decide +kernel)) (W 17 "is_house" (by decide +kernel))
  obtain ⟨n18, g18, F18⟩ := fun_of (D 18 "call_names" (by decide +kernel)) (W 18 "call_names" (by decide +kernel))
  obtain ⟨n19, g19, F19⟩ := fun_of (D 19 "answer_names" (by decide +kernel)) (W 19 "answer_names" (by decide +kernel))
  obtain ⟨n20, g20, F20⟩ := fun_of (D 20 "is_word" (by decide +kernel)) (W 20 "is_word" (by decide +kernel))
  obtain ⟨n22, g22, F22⟩ := fun_of (D 22 "is_program" (by decide +kernel)) (W 22 "is_program" (by decide +kernel))
  obtain ⟨n23, g23, F23⟩ := fun_of (D 23 "is_state_row" (by decide +kernel)) (W 23 "is_state_row" (by decide +kernel))
  obtain ⟨n24, g24, F24⟩ := fun_of (D 24 "is_entry" (by decide +kernel)) (W 24 "is_entry" (by decide +kernel))
  obtain ⟨n25, g25, F25⟩ := fun_of (D 25 "need_program_and_word" (by decide +kernel)) (W 25 "need_program_and_word" (by decide +kernel))
  obtain ⟨n26, g26, F26⟩ := fun_of (D 26 "entries_of" (by decide +kernel)) (W 26 "entries_of" (by decide +kernel))
  obtain ⟨n27, g27, F27⟩ := fun_of (D 27 "answers" (by decide +kernel)) (W 27 "answers" (by decide +kernel))
  obtain ⟨n28, g28, F28⟩ := fun_of (D 28 "history" (by decide +kernel)) (W 28 "history" (by decide +kernel))
  obtain ⟨n29, g29, F29⟩ := fun_of (D 29 "state_behind" (by decide +kernel)) (W 29 "state_behind" (by decide +kernel))
  obtain ⟨n31, g31, F31⟩ := fun_of (D 31 "_law_begun" (by decide +kernel)) (W 31 "_law_begun" (by decide +kernel))
  obtain ⟨n32, g32, F32⟩ := fun_of (D 32 "_law_mixed" (by decide +kernel)) (W 32 "_law_mixed" (by decide +kernel))
  obtain ⟨n33, g33, F33⟩ := fun_of (D 33 "_law_take" (by decide +kernel)) (W 33 "_law_take" (by decide +kernel))
  obtain ⟨n34, g34, F34⟩ := fun_of (D 34 "_law_pick" (by decide +kernel)) (W 34 "_law_pick" (by decide +kernel))
  obtain ⟨n35, g35, F35⟩ := fun_of (D 35 "_law_shuffled" (by decide +kernel)) (W 35 "_law_shuffled" (by decide +kernel))
  obtain ⟨n36, g36, F36⟩ := fun_of (D 36 "_law_names" (by decide +kernel)) (W 36 "_law_names" (by decide +kernel))
  obtain ⟨n37, g37, F37⟩ := fun_of (D 37 "_law_house" (by decide +kernel)) (W 37 "_law_house" (by decide +kernel))
  obtain ⟨n38, g38, F38⟩ := fun_of (D 38 "_law_calls" (by decide +kernel)) (W 38 "_law_calls" (by decide +kernel))
  obtain ⟨n39, g39, F39⟩ := fun_of (D 39 "_law_word" (by decide +kernel)) (W 39 "_law_word" (by decide +kernel))
  obtain ⟨n40, g40, F40⟩ := fun_of (D 40 "_law_program" (by decide +kernel)) (W 40 "_law_program" (by decide +kernel))
  obtain ⟨n41, g41, F41⟩ := fun_of (D 41 "_law_answered" (by decide +kernel)) (W 41 "_law_answered" (by decide +kernel))
  obtain ⟨n42, g42, F42⟩ := fun_of (D 42 "_law_places" (by decide +kernel)) (W 42 "_law_places" (by decide +kernel))
  obtain ⟨n43, g43, F43⟩ := fun_of (D 43 "_law_part_at" (by decide +kernel)) (W 43 "_law_part_at" (by decide +kernel))
  obtain ⟨n44, g44, F44⟩ := fun_of (D 44 "_law_put_at" (by decide +kernel)) (W 44 "_law_put_at" (by decide +kernel))
  obtain ⟨n45, g45, F45⟩ := fun_of (D 45 "_law_odd" (by decide +kernel)) (W 45 "_law_odd" (by decide +kernel))
  obtain ⟨n46, g46, F46⟩ := fun_of (D 46 "_law_bent" (by decide +kernel)) (W 46 "_law_bent" (by decide +kernel))
  obtain ⟨n47, g47, F47⟩ := fun_of (D 47 "_law_all_names" (by decide +kernel)) (W 47 "_law_all_names" (by decide +kernel))
  obtain ⟨n48, g48, F48⟩ := fun_of (D 48 "_law_is_name" (by decide +kernel)) (W 48 "_law_is_name" (by decide +kernel))
  obtain ⟨n49, g49, F49⟩ := fun_of (D 49 "_law_are_names" (by decide +kernel)) (W 49 "_law_are_names" (by decide +kernel))
  obtain ⟨n50, g50, F50⟩ := fun_of (D 50 "_law_has_head" (by decide +kernel)) (W 50 "_law_has_head" (by decide +kernel))
  obtain ⟨n51, g51, F51⟩ := fun_of (D 51 "_law_is_house" (by decide +kernel)) (W 51 "_law_is_house" (by decide +kernel))
  obtain ⟨n52, g52, F52⟩ := fun_of (D 52 "_law_is_whole" (by decide +kernel)) (W 52 "_law_is_whole" (by decide +kernel))
  obtain ⟨n53, g53, F53⟩ := fun_of (D 53 "_law_is_program" (by decide +kernel)) (W 53 "_law_is_program" (by decide +kernel))
  obtain ⟨n54, g54, F54⟩ := fun_of (D 54 "_law_state" (by decide +kernel)) (W 54 "_law_state" (by decide +kernel))
  obtain ⟨n55, g55, F55⟩ := fun_of (D 55 "_law_error" (by decide +kernel)) (W 55 "_law_error" (by decide +kernel))
  obtain ⟨n56, g56, F56⟩ := fun_of (D 56 "_law_bad_word" (by decide +kernel)) (W 56 "_law_bad_word" (by decide +kernel))
  obtain ⟨n57, g57, F57⟩ := fun_of (D 57 "_law_long_right" (by decide +kernel)) (W 57 "_law_long_right" (by decide +kernel))
  obtain ⟨n58, g58, F58⟩ := fun_of (D 58 "law" (by decide +kernel)) (W 58 "law" (by decide +kernel))
  have mg_ := fun {x : Str} {v : Value} => PySem.W.mg_of (n := x) (v := v) X G
  have z := hmg.symm.trans (mg_ n58)
  have z : fa = addrOf K "law" := by injection z with z; injection z
  subst z
  obtain ⟨nk, kv⟩ := kept_of h5
  unfold badB at h6
  obtain ⟨q1, h6⟩ := and2 h6
  obtain ⟨q2, q3⟩ := and2 h6
  have mP := mg_ (of_decide_eq_true q1)
  obtain ⟨nBP, xP, iP, oP, eP⟩ := cls_of q2
  obtain ⟨nBW, xW, iW, oW, eW⟩ := cls_of q3
  have tb_ := fun (x : Str) (m : x ∈ tabL) => tab_of X hg (List.all_eq_true.mp h2 x m)
  obtain ⟨tL1, tL2, tL3, tL4⟩ := tab_of X hg h3
  have FL := funT_of F58 tL4
  refine ⟨(codeOf K "law", tabOf K "law") :: tabL.map fun x => (codeOf K x, tabOf K x), fun p hp => ?_, fun p hp => ?_, fun p hp => ?_, ?_⟩
  · rcases List.mem_cons.mp hp with rfl | hp
    · exact tL1
    · obtain ⟨x, hx, rfl⟩ := List.mem_map.mp hp
      exact (tb_ x hx).1
  · rcases List.mem_cons.mp hp with rfl | hp
    · exact tL2
    · obtain ⟨x, hx, rfl⟩ := List.mem_map.mp hp
      exact (tb_ x hx).2.1
  · rcases List.mem_cons.mp hp with rfl | hp
    · exact tL3
    · obtain ⟨x, hx, rfl⟩ := List.mem_map.mp hp
      exact (tb_ x hx).2.2.1
  intro base s H a ns kb nb hsm TB tg e0 hS hn
  have TBL := TB (codeOf K "law", tabOf K "law") List.mem_cons_self
  have TBx := fun (x : Str) (m : x ∈ tabL) => TB (codeOf K x, tabOf K x) (List.mem_cons_of_mem _ (List.mem_map_of_mem (f := fun x => (codeOf K x, tabOf K x)) m))
  have tgL := tg (codeOf K "law", tabOf K "law") List.mem_cons_self
  generalize hT : tabL.map (fun x => tabOf K x) = T
  have inT := fun (x : Str) (m : x ∈ tabL) => (show tabOf K x ∈ T from hT ▸ List.mem_map_of_mem (f := fun x => tabOf K x) m)
  have tbs : Tabs T H := fun b hb => by
    rw [← hT] at hb
    obtain ⟨x, hx, rfl⟩ := List.mem_map.mp hb
    exact ⟨#[], tg (codeOf K x, tabOf K x) (List.mem_cons_of_mem _ (List.mem_map_of_mem (f := fun x => (codeOf K x, tabOf K x)) hx)), True.intro⟩
  have nT : tabOf K "law" ∉ T := fun y => by
    rw [← hT] at y
    obtain ⟨x, hx, e⟩ := List.mem_map.mp y
    have q := List.all_eq_true.mp h4 x hx
    rw [e] at q
    simp at q
  have T_is_name := funT_of F13 (tb_ "is_name" (by decide +kernel)).2.2.2
  have B_is_name := TBx "is_name" (by decide +kernel)
  have I_is_name := inT "is_name" (by decide +kernel)
  have T_are_names := funT_of F15 (tb_ "are_names" (by decide +kernel)).2.2.2
  have B_are_names := TBx "are_names" (by decide +kernel)
  have I_are_names := inT "are_names" (by decide +kernel)
  have T_call_names := funT_of F18 (tb_ "call_names" (by decide +kernel)).2.2.2
  have B_call_names := TBx "call_names" (by decide +kernel)
  have I_call_names := inT "call_names" (by decide +kernel)
  have T_answer_names := funT_of F19 (tb_ "answer_names" (by decide +kernel)).2.2.2
  have B_answer_names := TBx "answer_names" (by decide +kernel)
  have I_answer_names := inT "answer_names" (by decide +kernel)
  have T_is_house := funT_of F17 (tb_ "is_house" (by decide +kernel)).2.2.2
  have B_is_house := TBx "is_house" (by decide +kernel)
  have I_is_house := inT "is_house" (by decide +kernel)
  have T_is_word := funT_of F20 (tb_ "is_word" (by decide +kernel)).2.2.2
  have B_is_word := TBx "is_word" (by decide +kernel)
  have I_is_word := inT "is_word" (by decide +kernel)
  have T_is_state_row := funT_of F23 (tb_ "is_state_row" (by decide +kernel)).2.2.2
  have B_is_state_row := TBx "is_state_row" (by decide +kernel)
  have I_is_state_row := inT "is_state_row" (by decide +kernel)
  have T_is_program := funT_of F22 (tb_ "is_program" (by decide +kernel)).2.2.2
  have B_is_program := TBx "is_program" (by decide +kernel)
  have I_is_program := inT "is_program" (by decide +kernel)
  have T_answers := funT_of F27 (tb_ "answers" (by decide +kernel)).2.2.2
  have B_answers := TBx "answers" (by decide +kernel)
  have I_answers := inT "answers" (by decide +kernel)
  have T_history := funT_of F28 (tb_ "history" (by decide +kernel)).2.2.2
  have B_history := TBx "history" (by decide +kernel)
  have I_history := inT "history" (by decide +kernel)
  have b6 : Binds K g6 ["thing"] [] := (F6.binds (fun _ _ _ _ _ _ us hl => match us, hl with | [_], _ => rfl))
  have b7 : Binds K g7 ["thing", "many"] [] := (F7.binds (fun _ _ _ _ _ _ us hl => match us, hl with | [_, _], _ => rfl))
  have b8 : Binds K g8 ["thing", "many"] [] := (F8.binds (fun _ _ _ _ _ _ us hl => match us, hl with | [_, _], _ => rfl))
  have b9 : Binds K g9 ["thing", "word", "many"] [] := (F9.binds (fun _ _ _ _ _ _ us hl => match us, hl with | [_, _, _], _ => rfl))
  have b10 : Binds K g10 ["thing", "names"] [] := (F10.binds (fun _ _ _ _ _ _ us hl => match us, hl with | [_, _], _ => rfl))
  have b13 : Binds K g13 ["thing"] [] := (F13.binds (fun _ _ _ _ _ _ us hl => match us, hl with | [_], _ => rfl))
  have b15 : Binds K g15 ["thing", "most"] [] := (F15.binds (fun _ _ _ _ _ _ us hl => match us, hl with | [_, _], _ => rfl))
  have b16 : Binds K g16 ["thing"] [] := (F16.binds (fun _ _ _ _ _ _ us hl => match us, hl with | [_], _ => rfl))
  have b17 : Binds K g17 ["thing"] [] := (F17.binds (fun _ _ _ _ _ _ us hl => match us, hl with | [_], _ => rfl))
  have b18 : Binds K g18 ["house"] [] := (F18.binds (fun _ _ _ _ _ _ us hl => match us, hl with | [_], _ => rfl))
  have b19 : Binds K g19 ["house"] [] := (F19.binds (fun _ _ _ _ _ _ us hl => match us, hl with | [_], _ => rfl))
  have b20 : Binds K g20 ["house", "thing"] [] := (F20.binds (fun _ _ _ _ _ _ us hl => match us, hl with | [_, _], _ => rfl))
  have b22 : Binds K g22 ["thing"] [] := (F22.binds (fun _ _ _ _ _ _ us hl => match us, hl with | [_], _ => rfl))
  have b23 : Binds K g23 ["by_call", "many", "row"] [] := (F23.binds (fun _ _ _ _ _ _ us hl => match us, hl with | [_, _, _], _ => rfl))
  have b24 : Binds K g24 ["names", "many", "pair"] [] := (F24.binds (fun _ _ _ _ _ _ us hl => match us, hl with | [_, _, _], _ => rfl))
  have b25 : Binds K g25 ["program", "word"] [] := (F25.binds (fun _ _ _ _ _ _ us hl => match us, hl with | [_, _], _ => rfl))
  have b26 : Binds K g26 ["program", "word"] [] := (F26.binds (fun _ _ _ _ _ _ us hl => match us, hl with | [_, _], _ => rfl))
  have b27 : Binds K g27 ["program", "word"] [] := (F27.binds (fun _ _ _ _ _ _ us hl => match us, hl with | [_, _], _ => rfl))
  have b28 : Binds K g28 ["program", "word"] [] := (F28.binds (fun _ _ _ _ _ _ us hl => match us, hl with | [_, _], _ => rfl))
  have b29 : Binds K g29 ["program", "word"] [] := (F29.binds (fun _ _ _ _ _ _ us hl => match us, hl with | [_, _], _ => rfl))
  have b31 : Binds K g31 ["script"] [] := (F31.binds (fun _ _ _ _ _ _ us hl => match us, hl with | [_], _ => rfl))
  have b32 : Binds K g32 ["draw"] [] := (F32.binds (fun _ _ _ _ _ _ us hl => match us, hl with | [_], _ => rfl))
  have b33 : Binds K g33 ["draw", "many"] [] := (F33.binds (fun _ _ _ _ _ _ us hl => match us, hl with | [_, _], _ => rfl))
  have b34 : Binds K g34 ["draw", "some"] [] := (F34.binds (fun _ _ _ _ _ _ us hl => match us, hl with | [_, _], _ => rfl))
  have b35 : Binds K g35 ["draw", "some"] [] := (F35.binds (fun _ _ _ _ _ _ us hl => match us, hl with | [_, _], _ => rfl))
  have b36 : Binds K g36 ["draw", "many"] [] := (F36.binds (fun _ _ _ _ _ _ us hl => match us, hl with | [_, _], _ => rfl))
  have b37 : Binds K g37 ["draw"] [] := (F37.binds (fun _ _ _ _ _ _ us hl => match us, hl with | [_], _ => rfl))
  have b38 : Binds K g38 ["house"] [] := (F38.binds (fun _ _ _ _ _ _ us hl => match us, hl with | [_], _ => rfl))
  have b39 : Binds K g39 ["draw", "house", "most"] [] := (F39.binds (fun _ _ _ _ _ _ us hl => match us, hl with | [_, _, _], _ => rfl))
  have b40 : Binds K g40 ["draw", "house", "most"] [] := (F40.binds (fun _ _ _ _ _ _ us hl => match us, hl with | [_, _, _], _ => rfl))
  have b41 : Binds K g41 ["program", "word"] [] := (F41.binds (fun _ _ _ _ _ _ us hl => match us, hl with | [_, _], _ => rfl))
  have b42 : Binds K g42 ["thing"] [] := (F42.binds (fun _ _ _ _ _ _ us hl => match us, hl with | [_], _ => rfl))
  have b43 : Binds K g43 ["thing", "path"] [] := (F43.binds (fun _ _ _ _ _ _ us hl => match us, hl with | [_, _], _ => rfl))
  have b44 : Binds K g44 ["thing", "path", "part"] [] := (F44.binds (fun _ _ _ _ _ _ us hl => match us, hl with | [_, _, _], _ => rfl))
  have b45 : Binds K g45 ["draw", "part", "names"] [] := (F45.binds (fun _ _ _ _ _ _ us hl => match us, hl with | [_, _, _], _ => rfl))
  have b46 : Binds K g46 ["draw", "thing", "names"] [] := (F46.binds (fun _ _ _ _ _ _ us hl => match us, hl with | [_, _, _], _ => rfl))
  have b47 : Binds K g47 ["house"] [] := (F47.binds (fun _ _ _ _ _ _ us hl => match us, hl with | [_], _ => rfl))
  have b48 : Binds K g48 ["thing"] [] := (F48.binds (fun _ _ _ _ _ _ us hl => match us, hl with | [_], _ => rfl))
  have b49 : Binds K g49 ["thing", "most"] [] := (F49.binds (fun _ _ _ _ _ _ us hl => match us, hl with | [_, _], _ => rfl))
  have b50 : Binds K g50 ["thing", "word", "many"] [] := (F50.binds (fun _ _ _ _ _ _ us hl => match us, hl with | [_, _, _], _ => rfl))
  have b51 : Binds K g51 ["thing"] [] := (F51.binds (fun _ _ _ _ _ _ us hl => match us, hl with | [_], _ => rfl))
  have b52 : Binds K g52 ["thing"] [] := (F52.binds (fun _ _ _ _ _ _ us hl => match us, hl with | [_], _ => rfl))
  have b53 : Binds K g53 ["thing"] [] := (F53.binds (fun _ _ _ _ _ _ us hl => match us, hl with | [_], _ => rfl))
  have b54 : Binds K g54 ["program", "word"] [] := (F54.binds (fun _ _ _ _ _ _ us hl => match us, hl with | [_, _], _ => rfl))
  have b55 : Binds K g55 ["work"] [] := (F55.binds (fun _ _ _ _ _ _ us hl => match us, hl with | [_], _ => rfl))
  have b56 : Binds K g56 ["draw", "house", "word"] [] := (F56.binds (fun _ _ _ _ _ _ us hl => match us, hl with | [_, _, _], _ => rfl))
  have b57 : Binds K g57 ["draw"] [] := (F57.binds (fun _ _ _ _ _ _ us hl => match us, hl with | [_], _ => rfl))
  have o6 := Kd.ok_number (P := P) (w := w) (mg := mg) (base := base) F6 mis mI mB
  have o7 := Kd.ok_index (P := P) (w := w) (mg := mg) (base := base) F7 o6 (mg_ n6) F6.kp b6
  have o8 := Kd.ok_tupleOf (P := P) (w := w) (mg := mg) (base := base) F8 mis mtu ml
  have o9 := Kd.ok_told (P := P) (w := w) (mg := mg) (base := base) F9 mis mst o8 (mg_ n8) F8.kp b8
  have o10 := Kd.ok_among (P := P) (w := w) (mg := mg) (base := base) F10 mis mst
  have o13 := Nm.ok_name (P := P) (w := w) (mg := mg) (base := base) T_is_name mis mst mal ml B_is_name I_is_name (mg_ nk) kv
  have o15 := Nm.ok_names (P := P) (w := w) (mg := mg) (base := base) T_are_names mis mtu mal ml mse B_are_names I_are_names o13 (mg_ n13) F13.kp b13
  have o16 := Hs.ok_call (P := P) (w := w) (mg := mg) (base := base) F16 o9 (mg_ n9) F9.kp b9 o13 (mg_ n13) F13.kp b13 o15 (mg_ n15) F15.kp b15
  have o18 := Hs.ok_callNames (P := P) (w := w) (mg := mg) (base := base) T_call_names mtu B_call_names I_call_names
  have o19 := Hs.ok_answerNames (P := P) (w := w) (mg := mg) (base := base) T_answer_names mtu B_answer_names I_answer_names
  have o17 := Hs.ok_house (P := P) (w := w) (mg := mg) (base := base) T_is_house mis mtu mal B_is_house I_is_house o9 (mg_ n9) F9.kp b9 o16 (mg_ n16) F16.kp b16 o15 (mg_ n15) F15.kp b15 o18 (mg_ n18) F18.kp b18
  have o20 := Pr.ok_word (P := P) (w := w) (mg := mg) (base := base) T_is_word mis mtu mal B_is_word I_is_word o17 (mg_ n17) F17.kp b17 o18 (mg_ n18) F18.kp b18 o10 (mg_ n10) F10.kp b10
  have o24 := Pr.ok_entry (P := P) (w := w) (mg := mg) (base := base) F24 o8 (mg_ n8) F8.kp b8 o10 (mg_ n10) F10.kp b10 o7 (mg_ n7) F7.kp b7
  have o23 := Ps.ok_row (P := P) (w := w) (mg := mg) (base := base) T_is_state_row ml mz mal B_is_state_row I_is_state_row o8 (mg_ n8) F8.kp b8 o24 (mg_ n24) F24.kp b24
  have o22 := Ps.ok_program (P := P) (w := w) (mg := mg) (base := base) T_is_program mis mtu ml mal B_is_program I_is_program o9 (mg_ n9) F9.kp b9 o17 (mg_ n17) F17.kp b17 o19 (mg_ n19) F19.kp b19 o23 (mg_ n23) F23.kp b23
  have o25 := An.ok_need (P := P) (w := w) (mg := mg) (base := base) F25 oP (mg_ nBP) oW (mg_ nBW) (kk := 8) (o22.mono (by decide)) (mg_ n22) F22.kp b22 (o20.mono (by decide)) (mg_ n20) F20.kp b20
  have o26 := En.ok_entries (P := P) (w := w) (mg := mg) (base := base) F26 men o18 (mg_ n18) F18.kp b18
  have o27 := An.ok_answers (P := P) (w := w) (mg := mg) (base := base) T_answers mtu B_answers I_answers (kk := 7) o25 (mg_ n25) F25.kp b25 o26 (mg_ n26) F26.kp b26
  have o28 := Ah.ok_history (P := P) (w := w) (mg := mg) (base := base) T_history mtu mz B_history I_history (kk := 7) o25 (mg_ n25) F25.kp b25 o26 (mg_ n26) F26.kp b26
  have o29 := Ah.ok_behind (P := P) (w := w) (mg := mg) (base := base) F29 (kk := 7) o25 (mg_ n25) F25.kp b25 o26 (mg_ n26) F26.kp b26
  have o31 := Dw.ok_begun (P := P) (w := w) (mg := mg) (base := base) F31 mI mab
  have o32 := Dw.ok_mixed (P := P) (w := w) (mg := mg) (base := base) F32 mI
  have o33 := Dw.ok_take (P := P) (w := w) (mg := mg) (base := base) F33 mI o32 (mg_ n32) F32.kp b32
  have o34 := Dw.ok_pick (P := P) (w := w) (mg := mg) (base := base) F34 ml o33 (mg_ n33) F33.kp b33
  have o35 := Lw.ok_shuf (P := P) (w := w) (mg := mg) (base := base) F35 ml mli o33 (mg_ n33) F33.kp b33
  have o36 := Lh.ok_lnames (P := P) (w := w) (mg := mg) (base := base) F36 mra o34 (mg_ n34) F34.kp b34 o35 (mg_ n35) F35.kp b35
  have o37 := Lh.ok_house (P := P) (w := w) (mg := mg) (base := base) F37 mtu o34 (mg_ n34) F34.kp b34 o35 (mg_ n35) F35.kp b35 o36 (mg_ n36) F36.kp b36
  have o38 := Lp.ok_calls (P := P) (w := w) (mg := mg) (base := base) F38
  have o39 := Lp.ok_wordD (P := P) (w := w) (mg := mg) (base := base) F39 mra mtu o33 (mg_ n33) F33.kp b33 o34 (mg_ n34) F34.kp b34 o38 (mg_ n38) F38.kp b38
  have o40 := Lq.ok_progD (P := P) (w := w) (mg := mg) (base := base) F40 mra mtu mli o33 (mg_ n33) F33.kp b33 o34 (mg_ n34) F34.kp b34
  have o41 := La.ok_ansd (P := P) (w := w) (mg := mg) (base := base) F41 mtu o38 (mg_ n38) F38.kp b38
  have o54 := La.ok_state (P := P) (w := w) (mg := mg) (base := base) F54 o38 (mg_ n38) F38.kp b38
  have o42 := Lz.ok_places (P := P) (w := w) (mg := mg) (base := base) F42 mis mtu ml men
  have o43 := Pp.ok_part (P := P) (w := w) (mg := mg) (base := base) F43
  have o44 := Pp.ok_put (P := P) (w := w) (mg := mg) (base := base) F44 (mg_ n44) F44.kp b44 145
  have o45 := Od.ok_odd (P := P) (w := w) (mg := mg) (base := base) F45 mis mtu mst mI mB mli ml o33 (mg_ n33) F33.kp b33 o34 (mg_ n34) F34.kp b34
  have o46 := Be.ok_bent (P := P) (w := w) (mg := mg) (base := base) F46 o42 (mg_ n42) F42.kp b42 o43 (mg_ n43) F43.kp b43 o44 (mg_ n44) F44.kp b44 o45 (mg_ n45) F45.kp b45 o34 (mg_ n34) F34.kp b34
  have o52 := Lb.ok_whole (P := P) (w := w) (mg := mg) (base := base) F52 mis mI mB
  have o50 := Lb.ok_head (P := P) (w := w) (mg := mg) (base := base) F50 mis mtu ml mst
  have o47 := Lb.ok_all (P := P) (w := w) (mg := mg) (base := base) F47 mli
  have o48 := Li.ok_lname (P := P) (w := w) (mg := mg) (base := base) F48 mis mst ml
  have o49 := Ln.ok_lare (P := P) (w := w) (mg := mg) (base := base) F49 mis mtu ml mse o48 (mg_ n48) F48.kp b48
  have o51 := Lo.ok_lhouse (P := P) (w := w) (mg := mg) (base := base) F51 mis mtu ml mse o50 (mg_ n50) F50.kp b50 o48 (mg_ n48) F48.kp b48 o49 (mg_ n49) F49.kp b49
  have o53 := Lr.ok_lprog (P := P) (w := w) (mg := mg) (base := base) F53 mis mtu ml mz mst o50 (mg_ n50) F50.kp b50 o51 (mg_ n51) F51.kp b51 o52 (mg_ n52) F52.kp b52
  have o56 := Bw.ok_bad (P := P) (w := w) (mg := mg) (base := base) F56 mli o38 (mg_ n38) F38.kp b38 o34 (mg_ n34) F34.kp b34
  have o57 := Ll.ok_long (P := P) (w := w) (mg := mg) (base := base) F57 mra mtu ml (kk := 11) (by decide) o37 (mg_ n37) F37.kp b37 o33 (mg_ n33) F33.kp b33 o34 (mg_ n34) F34.kp b34 o38 (mg_ n38) F38.kp b38 o41 (mg_ n41) F41.kp b41 o28 (mg_ n28) F28.kp b28 o29 (mg_ n29) F29.kp b29 (o22.mono (by decide)) (mg_ n22) F22.kp b22
  have k28 : KBinds K g28 ["program", "word"] ["word", "program"] (fun us ws => us ++ ws.reverse) (fun vs zs => vs ++ zs.reverse) := by
    obtain ⟨oc, od, kw, dc, md, an, cd, ct, sl, rfl, lk, hc⟩ := F28.ex
    exact ⟨fun s us ws hu hl => by
      rcases ws with _ | ⟨v, _ | ⟨v2, _ | ⟨v3, ws⟩⟩⟩ <;> rcases us with _ | ⟨u, _ | ⟨u2, _ | ⟨u3, us⟩⟩⟩ <;> first | exact BindsTo.of_eq rfl | (exfalso; simp at hl; done), fun r1 r2 => r1.append (Kw.vals_rev r2)⟩
  have k27 : KBinds K g27 ["program", "word"] ["word", "program"] (fun us ws => us ++ ws.reverse) (fun vs zs => vs ++ zs.reverse) := by
    obtain ⟨oc, od, kw, dc, md, an, cd, ct, sl, rfl, lk, hc⟩ := F27.ex
    exact ⟨fun s us ws hu hl => by
      rcases ws with _ | ⟨v, _ | ⟨v2, _ | ⟨v3, ws⟩⟩⟩ <;> rcases us with _ | ⟨u, _ | ⟨u2, _ | ⟨u3, us⟩⟩⟩ <;> first | exact BindsTo.of_eq rfl | (exfalso; simp at hl; done), fun r1 r2 => r1.append (Kw.vals_rev r2)⟩
  have k29 : KBinds K g29 ["program", "word"] ["word", "program"] (fun us ws => us ++ ws.reverse) (fun vs zs => vs ++ zs.reverse) := by
    obtain ⟨oc, od, kw, dc, md, an, cd, ct, sl, rfl, lk, hc⟩ := F29.ex
    exact ⟨fun s us ws hu hl => by
      rcases ws with _ | ⟨v, _ | ⟨v2, _ | ⟨v3, ws⟩⟩⟩ <;> rcases us with _ | ⟨u, _ | ⟨u2, _ | ⟨u3, us⟩⟩⟩ <;> first | exact BindsTo.of_eq rfl | (exfalso; simp at hl; done), fun r1 r2 => r1.append (Kw.vals_rev r2)⟩
  have k22 : KBinds K g22 ["thing"] ["thing"] (fun us ws => us ++ ws) (fun vs zs => vs ++ zs) := by
    obtain ⟨oc, od, kw, dc, md, an, cd, ct, sl, rfl, lk, hc⟩ := F22.ex
    exact ⟨fun s us ws _ hl => by
      rcases us with _ | ⟨u, _ | ⟨u2, us⟩⟩ <;> rcases ws with _ | ⟨v, _ | ⟨v2, ws⟩⟩ <;> first | exact BindsTo.of_eq rfl | (exfalso; simp at hl), fun r1 r2 => r1.append r2⟩
  have hbf : ∀ (s : Shared) (u : Value), BindsTo s g58 ⟨[u], []⟩ [(("script" : Str), u)] := fun s u => by
    obtain ⟨oc, od, kV, doc, pm, an, cdv, ct, osl, rfl, lk, hcd⟩ := F58.ex
    exact BindsTo.of_eq rfl
  exact Ly.law_run (kk := 11) (by decide) (by decide) FL hbf hsm
    ⟨_, g31, mg_ n31, F31.kp, o31, b31⟩
    ⟨_, g57, mg_ n57, F57.kp, o57, b57⟩
    ⟨_, g37, mg_ n37, F37.kp, o37, b37⟩
    ⟨_, g40, mg_ n40, F40.kp, o40, b40⟩
    ⟨_, g39, mg_ n39, F39.kp, o39, b39⟩
    ⟨_, g41, mg_ n41, F41.kp, o41, b41⟩
    ⟨_, g54, mg_ n54, F54.kp, o54, b54⟩
    ⟨_, g46, mg_ n46, F46.kp, o46, b46⟩
    ⟨_, g33, mg_ n33, F33.kp, o33, b33⟩
    ⟨_, g47, mg_ n47, F47.kp, o47, b47⟩
    ⟨_, g53, mg_ n53, F53.kp, o53, b53⟩
    ⟨_, g56, mg_ n56, F56.kp, o56, b56⟩
    ⟨_, g28, mg_ n28, F28.kp, o28, b28, k28⟩
    ⟨_, g27, mg_ n27, F27.kp, o27, b27, k27⟩
    ⟨_, g29, mg_ n29, F29.kp, o29, b29, k29⟩
    (mg_ n22) F22.kp (o22.mono (by decide)) b22 k22 F55 (mg_ n55) F55.kp b55
    mP (mg_ nBP) (mg_ nBW) xP xW eP eW iP iW ml mmin mra mtu mre mis ⟨TBL.code, TBL.bm, TBL.gP⟩ nT e0 hS hn tbs ⟨#[], tgL, True.intro, fun pos cv z => nomatch (trip_nil pos).symm.trans z⟩
end
end Kh

set_option Elab.async false
set_option linter.all false
open PySem PySem.W PySem.Calls PyProof.Rows
set_option maxRecDepth 100000
set_option maxHeartbeats 0
theorem PySem.Challenge.cw_saidandasked_k19_programs_answer_words_holds : PySem.Challenge.rw_saidandasked_k19_programs_answer_words.Holds := by
  w_on; o_law
  refine HandSHeadRun.head_any (r := OpenLaw.row PySem.Challenge.rw_saidandasked_k19_programs_answer_words) (q := view (OpenLaw.row PySem.Challenge.rw_saidandasked_k19_programs_answer_words).prog [58]) (H := Kh.hk) (ob := Kh.ob) (M := 8000) (loose := Kh.looseK) (d := HandSHeadRun.topDef (OpenLaw.row PySem.Challenge.rw_saidandasked_k19_programs_answer_words).prog 58) (kwd := []) Kh.ob_eq
    (by kernel_rfl) (fun s => by kernel_rfl) Kh.run (by kernel_rfl) (by kernel_rfl) (by kernel_rfl) (by rfl) (by first | assumption | decide +kernel) (by decide +kernel) ⟨rfl, rfl, rfl, rfl, rfl, by decide +kernel⟩ ?hw ?hc
  case hw => w_witness2
  case hc =>
    refine Lt.walk_hereT (l := PySem.Challenge.rw_saidandasked_k19_programs_answer_words) rfl (by kernel_rfl) (by decide +kernel) ?F
    intro w mg fa h Y G hmg0
    obtain ⟨K, g, KX, hg, c⟩ := Y
    have hmg : mg ("law" : PySem.Str) = some (.ref fa) := by
      have e : (HandSHeadRun.topDef (OpenLaw.row PySem.Challenge.rw_saidandasked_k19_programs_answer_words).prog 58).name = ("law" : PySem.Str) := by kernel_rfl
      rw [← e]
      exact hmg0
    obtain ⟨ts, h1, h2, h3, L⟩ := Kh.law_at (P := (PySem.Challenge.rw_saidandasked_k19_programs_answer_words).prog) (w := w) KX hg G hmg c
    exact ⟨K, ts, KX, h1, h2, h3, L⟩
