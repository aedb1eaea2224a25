import PyProof.Rows.All
import Wide.All
import OpenK.AllK
import Wide.FinOn
import HandS.ForMost
import HandS.Codes
import PySem.Challenge.RW_saidandasked_k00_names_and_words
import HandS.ExcInit
import HandS.Nested
import KE.KExcSuper
import HandS.ExcIs
import HandS.IsInst
import HandS.ExcField
import KE.KExcIs
import HandS.AnyAll
import HandS.TupSets
import HandS.WordsExc
import HandS.Exc
import KE.GoesMore
import HandS.ExcValue
import HandS.EndTab
import HandS.Head0
import HandS.Head1
import HandS.Head2
import HandS.HeadHook1
import HandS.HeadHook2
import KE.KStateDown
set_option Elab.async false
set_option linter.all false
set_option maxRecDepth 100000
/-! The draws of the laws: begun, mixed, take, pick. -/
namespace Dw
open PySem PySem.Spec PyProof.Rows L2
def topS (i : Nat) : Stmt := PySem.Challenge.pw_saidandasked_k00_names_and_words.main.body.getD i (.Pass ⟨0, 0, 0, 0⟩)
abbrev sBegun : Stmt := topS 11
abbrev sMixed : Stmt := topS 12
abbrev sTake : Stmt := topS 13
abbrev sPick : Stmt := topS 14
theorem scB : FnScope ["script", "wide", "grain"] ["script"] (defScope sBegun) := ⟨rfl, rfl, rfl, by decide +kernel, rfl, by decide +kernel, by decide +kernel⟩
theorem scM : FnScope ["draw", "turn", "found", "prime", "blend", "grain"] ["draw"] (defScope sMixed) := ⟨rfl, rfl, rfl, by decide +kernel, rfl, by decide +kernel, by decide +kernel⟩
theorem scT : FnScope ["draw", "many", "found"] ["draw", "many"] (defScope sTake) := ⟨rfl, rfl, rfl, by decide +kernel, rfl, by decide +kernel, by decide +kernel⟩
theorem scP : FnScope ["draw", "some"] ["draw", "some"] (defScope sPick) := ⟨rfl, rfl, rfl, by decide +kernel, rfl, by decide +kernel, by decide +kernel⟩
/-! ### what a draw looks like -/
abbrev kW : Key := Sum.inr ("wide" : Str)
abbrev kC : Key := Sum.inr ("cells" : Str)
abbrev kR : Key := Sum.inr ("rest" : Str)
abbrev kT : Key := Sum.inr ("turn" : Str)
def dkv (wp cp : Addr) (r t : Int) : List (Key × V) := [(kW, .ref wp), (kC, .ref cp), (kR, .int r), (kT, .int t)]
structure DrawAt (H : Hp) (d wp cp : Addr) (ws cs : List Int) (r t : Int) : Prop where
  dc : H d = some (.dK (dkv wp cp r t))
  wl : H wp = some (.lst (ws.map V.int))
  cl : H cp = some (.lst (cs.map V.int))
  cb : ∀ c ∈ cs, 0 ≤ c ∧ c < 2147483629
  cn : cs.length ≤ 63
  wn : ws.length ≤ 63
  t0 : 0 ≤ t
  nwc : wp ≠ cp
/-- a draw with n turns left -/
def Dr (H : Hp) (d wp cp : Addr) (n : Nat) : Prop := ∃ (ws cs : List Int) (r t : Int), DrawAt H d wp cp ws cs r t ∧ t + n ≤ 1000000000
theorem kWC : ¬ kW = kC := by decide +kernel
theorem kWR : ¬ kW = kR := by decide +kernel
theorem kWT : ¬ kW = kT := by decide +kernel
theorem kCR : ¬ kC = kR := by decide +kernel
theorem kCT : ¬ kC = kT := by decide +kernel
theorem kRT : ¬ kR = kT := by decide +kernel
theorem v_wide (wp cp : Addr) (r t : Int) : valV (dkv wp cp r t) kW = some (.ref wp) := valV_pos (p := (kW, V.ref wp)) rfl
theorem v_cells (wp cp : Addr) (r t : Int) : valV (dkv wp cp r t) kC = some (.ref cp) :=
  (valV_neg (p := (kW, V.ref wp)) kWC).trans (valV_pos (p := (kC, V.ref cp)) rfl)
theorem v_rest (wp cp : Addr) (r t : Int) : valV (dkv wp cp r t) kR = some (.int r) :=
  (valV_neg (p := (kW, V.ref wp)) kWR).trans ((valV_neg (p := (kC, V.ref cp)) kCR).trans (valV_pos (p := (kR, V.int r)) rfl))
theorem v_turn (wp cp : Addr) (r t : Int) : valV (dkv wp cp r t) kT = some (.int t) :=
  (valV_neg (p := (kW, V.ref wp)) kWT).trans ((valV_neg (p := (kC, V.ref cp)) kCT).trans ((valV_neg (p := (kR, V.int r)) kRT).trans (valV_pos (p := (kT, V.int t)) rfl)))
theorem p_rest (wp cp : Addr) (r t r' : Int) : putK (dkv wp cp r t) kR (.int r') = dkv wp cp r' t := by
  unfold putK
  rw [valV_any, v_rest, if_pos (show (some (V.int r)).isSome = true from rfl)]
  unfold dkv
  rw [List.map_cons, List.map_cons, List.map_cons, List.map_cons, List.map_nil]
  rw [if_neg kWR, if_neg kCR, if_pos rfl, if_neg (fun e => kRT e.symm)]
theorem p_turn (wp cp : Addr) (r t t' : Int) : putK (dkv wp cp r t) kT (.int t') = dkv wp cp r t' := by
  unfold putK
  rw [valV_any, v_turn, if_pos (show (some (V.int t)).isSome = true from rfl)]
  unfold dkv
  rw [List.map_cons, List.map_cons, List.map_cons, List.map_cons, List.map_nil]
  rw [if_neg kWT, if_neg kCT, if_neg kRT, if_pos rfl]
/-- what stands but at d and at wp -/
def But (d wp : Addr) (H H' : Hp) : Prop := ∀ b o, H b = some o → b ≠ d → b ≠ wp → H' b = some o
section
variable {P : Program} {w : World} {K : PySem.W.Frag} {mg : Str → Option Value} {base : Heap}
/-! ### mixed -/
def spMixed : Sp := fun vs H Q _ => ∃ (d wp cp : Addr) (ws cs : List Int) (r t : Int), vs = [.ref d] ∧ DrawAt H d wp cp ws cs r t ∧ t < 1000000000 ∧
  ∀ (v : Int) (H' : Hp), DrawAt H' d wp cp ws cs r (t + 1) → But d d H H' → Q (.int v) H'
theorem ok_mixed {f : Addr} {fd : FuncData} (F : Fun K "_law_mixed" "_law_mixed" sMixed f fd) (mi : mg "int" = none) : FnOk P w K mg base CX0 1 f fd ["draw"] spMixed := by
  refine F.ok scM (fun vs H Q E h => ?_) (fun cdv A outer s H vs Q E hr h => ?_)
  · obtain ⟨d, wp, cp, ws, cs, r, t, rfl, _⟩ := h
    rfl
  · obtain ⟨d, wp, cp, ws, cs, r, t, rfl, D, tb, k⟩ := h
    have hu := hu_of hr
    refine ⟨_, pss_cons (ps_par (by rfl) scM.nd (i := 1) (j := 2) rfl rfl (by decide) rfl rfl (pa_cons (pe_op op_add (pe_dget hu (pv 0) pe_str (fun _ _ => rfl)) pe_int) (pa_cons pe_int pa_nil)) (by rfl))
      (pss_cons (ps_dput hu (pv 0) pe_str (pv 1) rfl)
      (pss_cons (ps_for PassesOwn.never rfl (pi_list (pe_lst (pa_cons pe_int (pa_cons pe_int (pa_cons pe_int (pa_cons pe_int pa_nil)))))) (pg_name (i := 3) scM.nd rfl (.inl rfl))
        (pss_cons (ps_set (i := 4) scM.nd rfl (.inl rfl) (pe_op op_add (pe_op op_mul pe_int (pv 1)) (pe_op op_fdiv (pv 3) pe_int)))
        (pss_cons (ps_for PassesOwn.never rfl (pi_list (pe_dget hu (pv 0) pe_str (fun _ _ => rfl))) (pg_name (i := 5) scM.nd rfl (.inl rfl))
          (pss_one (ps_set (i := 4) scM.nd rfl (.inl rfl) (pe_op op_mod (pe_callTy call_int1 (by rfl) mi (by decide +kernel) (pa_cons (pe_op op_add (pe_op op_add (pe_op op_mul (pv 4) pe_int) (pv 5)) (pv 1)) pa_nil)) (pv 3)))))
        (pss_one (ps_set (i := 2) scM.nd rfl (.inl rfl) (pe_op op_add (pe_op op_mul (pv 2) pe_int) (pe_op op_mod (pe_callTy call_int1 (by rfl) mi (by decide +kernel) (pa_cons (pe_op op_pow (pv 4) pe_int) pa_nil)) (pv 3))))))))
      (pss_one (ps_ret (pv 2))))), ?_⟩
    have gT : DGet H d (kV kT) (some (.int t)) := by
      have z := DGet.k (k := kT) D.dc
      rw [v_turn] at z
      exact z
    refine ⟨_, rfl, d, _, rfl, gT, _, _, rfl, rfl, _, _, rfl, ?_⟩
    have ncd : cp ≠ d := ne_of D.cl D.dc (by intro z; cases z)
    have nwd : wp ≠ d := ne_of D.wl D.dc (by intro z; cases z)
    have D1 : DrawAt (upd H d (.dK (dkv wp cp r (t + 1)))) d wp cp ws cs r (t + 1) :=
      ⟨upd_same, by rw [upd_ne nwd]; exact D.wl, by rw [upd_ne ncd]; exact D.cl, D.cb, D.cn, D.wn, by have := D.t0; omega, D.nwc⟩
    refine ⟨_, rfl, _, rfl, d, _, rfl, DPut.k (k := kT) D.dc (show 4 < sizeLine by decide), ?_⟩
    rw [p_turn]
    generalize hH1 : upd H d (.dK (dkv wp cp r (t + 1))) = H1 at D1
    have B1 : But d d H H1 := fun b o e n _ => by rw [← hH1, upd_ne n]; exact e
    refine ⟨by decide, fun l nl => ?_⟩
    have nld : d ≠ l := ne_of_none D1.dc nl
    have nlc : cp ≠ l := ne_of_none D1.cl nl
    have nlw : wp ≠ l := ne_of_none D1.wl nl
    generalize hH2 : upd H1 l _ = H2
    have hl2 : H2 l = some (.lst ([2147483647, 2147483629, 2147483587, 2147483579].map V.int)) := by rw [← hH2, upd_same] <;> rfl
    have D2 : DrawAt H2 d wp cp ws cs r (t + 1) := ⟨by rw [← hH2, upd_ne nld]; exact D1.dc, by rw [← hH2, upd_ne nlw]; exact D1.wl, by rw [← hH2, upd_ne nlc]; exact D1.cl, D.cb, D.cn, D.wn, D1.t0, D.nwc⟩
    have B2 : But d d H H2 := fun b o e n _ => by
      have z := B1 b o e n n
      rw [← hH2, upd_ne (ne_of_none z nl)]
      exact z
    have gC : DGet H2 d (kV kC) (some (.ref cp)) := by
      have z := DGet.k (k := kC) D2.dc
      rw [v_cells] at z
      exact z
    refine ⟨l, rfl, ⟨_, SqL.of hl2⟩, for_list (xs := [2147483647, 2147483629, 2147483587, 2147483579].map V.int)
      (fun i σ H' => H2 = H' ∧ ∃ (found : Int) (pr bl gr : Option V), σ = [some (.ref d), some (.int (t + 1)), some (.int found), pr, bl, gr]) ⟨rfl, 0, none, none, none, rfl⟩ (fun i σ H' _ h => ?_) (fun i x σ H' hx h => ?_) (fun σ H' h => ?_)⟩
    · rw [← h.1]
      exact SqL.of hl2
    · obtain ⟨rfl, found, pr, bl, gr, rfl⟩ := h
      obtain ⟨p, rfl, p0, p1⟩ : ∃ p : Int, x = .int p ∧ 0 < p ∧ p < 2147483648 := by
        obtain ⟨p, hp, rfl⟩ := List.mem_map.mp (List.mem_of_getElem? hx)
        refine ⟨p, rfl, ?_⟩
        simp only [List.mem_cons, List.not_mem_nil, or_false] at hp
        omega
      have t0 := D.t0
      -- blend
      refine ⟨_, rfl, _, _, rfl, rfl, .inl ⟨by decide, by decide⟩, _, rfl, _, _, rfl, rfl, ⟨by decide, by decide⟩, _, _, rfl, rfl, ?_⟩
      -- the inner loop
      refine ⟨_, rfl, d, _, rfl, gC, cp, rfl, ⟨_, SqL.of D2.cl⟩, for_list (xs := cs.map V.int)
        (fun j σ H' => H2 = H' ∧ ∃ (bl : Int) (gr : Option V), σ = [some (.ref d), some (.int (t + 1)), some (.int found), some (.int p), some (.int bl), gr] ∧ 0 ≤ bl ∧ bl < 1000000000000000) ⟨rfl, _, gr, rfl, by omega, by omega⟩ (fun j σ H' _ h => ?_) (fun j x σ H' hx h => ?_) (fun σ H' h => ?_)⟩
      · rw [← h.1]
        exact SqL.of D2.cl
      · obtain ⟨rfl, bl, gr, rfl, b0, b1⟩ := h
        obtain ⟨g, hg, rfl⟩ := List.mem_map.mp (List.mem_of_getElem? hx)
        have hgb := D.cb g hg
        refine ⟨_, rfl, _, _, rfl, rfl, .inl ⟨by omega, by omega⟩, _, rfl, _, _, rfl, rfl, _, rfl, _, _, rfl, rfl, .inl ⟨_, rfl, ?_⟩⟩
        refine ⟨_, rfl, _, _, rfl, rfl, p0, ?_⟩
        refine ⟨rfl, _, _, rfl, Int.emod_nonneg _ (by omega), ?_⟩
        have := Int.emod_lt_of_pos (bl * 69621 + g + (t + 1)) p0
        omega
      · obtain ⟨rfl, bl, gr, rfl, b0, b1⟩ := h
        refine ⟨_, rfl, _, _, rfl, rfl, .inr ⟨by decide, by decide⟩, _, rfl, _, _, rfl, rfl, ⟨by decide, by decide, by omega⟩, .inl ⟨_, rfl, _, rfl, _, _, rfl, rfl, p0, _, _, rfl, rfl, ?_⟩⟩
        exact ⟨rfl, _, _, _, _, rfl⟩
    · obtain ⟨rfl, found, pr, bl, gr, rfl⟩ := h
      exact ⟨_, rfl, k _ _ D2 B2⟩
theorem iteT' {A B : Prop} {c : Bool} (e : c = true) (h : A) : if c = true then A else B := by rw [if_pos e]; exact h
theorem iteF' {A B : Prop} {c : Bool} (e : c = false) (h : B) : if c = true then A else B := by rw [if_neg (by rw [e]; decide)]; exact h
theorem dp_ints {K : PySem.W.Frag} {H : Hp} : ∀ ns : List Int, DpAll K H (ns.map V.int) (ns.map PyData.int)
  | [] => .nil
  | x :: r => .cons (.int x) (dp_ints r)
theorem ints_lay : ∀ ns : List Int, PyData.canLayAll0 (ns.map PyData.int) = true
  | [] => by simp [PyData.canLayAll0]
  | z :: zs => by simp [PyData.canLayAll0, PyData.canLay0, ints_lay zs]
theorem ints_depth : ∀ ns : List Int, PyData.depthAll (ns.map PyData.int) = 0
  | [] => by simp [PyData.depthAll]
  | z :: zs => by simp [PyData.depthAll, PyData.depth, ints_depth zs]
theorem ints_shaped (ns : List Int) : SeqAt.shaped (.list (ns.map PyData.int)) = true := by
  have h2 : PyData.depth (.list (ns.map PyData.int)) ≤ 64 := by
    simp only [PyData.depth, ints_depth]
    omega
  show (PyData.canLay0 (.list (ns.map PyData.int)) && decide (PyData.depth (.list (ns.map PyData.int)) ≤ 64)) = true
  rw [Bool.and_eq_true]
  exact ⟨by simp only [PyData.canLay0]; exact ints_lay ns, decide_eq_true h2⟩
/-! ### take -/
def Stays (d wp : Addr) (H H' : Hp) : Prop := But d wp H H'
def spTake : Sp := fun vs H Q _ => ∃ (d wp cp : Addr) (n : Nat) (m : Int), vs = [.ref d, .int m] ∧ Dr H d wp cp (n + 1) ∧ 0 < m ∧ m < 1000000000 ∧
  ∀ (v : Int) (H' : Hp), 0 ≤ v → v < m → Dr H' d wp cp n → But d wp H H' → Q (.int v) H'
theorem ok_take {f g : Addr} {fd gd : FuncData} (F : Fun K "_law_take" "_law_take" sTake f fd) (mi : mg "int" = none)
    (G : FnOk P w K mg base CX0 1 g gd ["draw"] spMixed) (mgf : mg "_law_mixed" = some (.ref g)) (kp : PySem.W.keepIn K (.ref g) = true) (b : Binds K gd ["draw"] []) : FnOk P w K mg base CX0 2 f fd ["draw", "many"] spTake := by
  refine F.ok scT (fun vs H Q E h => ?_) (fun cdv A outer s H vs Q E hr h => ?_)
  · obtain ⟨d, wp, cp, n, m, rfl, _⟩ := h
    rfl
  · obtain ⟨d, wp, cp, n, m, rfl, ⟨ws, cs, r, t, D, tb⟩, m0, m1, k⟩ := h
    have hu := hu_of hr
    refine ⟨_, C8.pss_cut (ps_if (pt_cmpR op_eq (pe_dget hu (pv 0) pe_str (fun _ _ => rfl)) pe_int (nomark _))
        (pss_one (ps_dput hu (pv 0) pe_str (pe_ifExp (pt_cmpR (op_neD hr.units) (pe_dget hu (pv 0) pe_str (fun _ _ => rfl)) (pe_lst pa_nil) (nomark _))
          (pe_bm PySem.F.plainAttrs_list PySem.F.slot_list_pop PySem.F.type_list_pop mt_popAt (pe_dget hu (pv 0) pe_str (fun _ _ => rfl)) (pa_cons pe_int pa_nil))
          (pe_call G (hr.mono (by decide)) rfl mgf kp b .nil pass0 (pa_cons (pv 0) pa_nil))) rfl)) pss_nil)
      (pss_cons (ps_set (i := 2) scT.nd rfl (.inl rfl) (pe_op op_mod (pe_callTy call_int1 (by rfl) mi (by decide +kernel) (pa_cons (pe_dget hu (pv 0) pe_str (fun _ _ => rfl)) pa_nil)) (pv 1)))
      (pss_cons (ps_dput hu (pv 0) pe_str (pe_op op_fdiv (pe_dget hu (pv 0) pe_str (fun _ _ => rfl)) (pv 1)) rfl)
      (pss_one (ps_ret (pv 2))))), ?_⟩
    have gR : DGet H d (kV kR) (some (.int r)) := by
      have z := DGet.k (k := kR) D.dc
      rw [v_rest] at z
      exact z
    have gW : DGet H d (kV kW) (some (.ref wp)) := by
      have z := DGet.k (k := kW) D.dc
      rw [v_wide] at z
      exact z
    have nwd : wp ≠ d := ne_of D.wl D.dc (by intro z; cases z)
    have ncd : cp ≠ d := ne_of D.cl D.dc (by intro z; cases z)
    refine ⟨fun σ H' => σ = [some (.ref d), some (.int m), none] ∧ ∃ (ws1 : List Int) (r1 t1 : Int), DrawAt H' d wp cp ws1 cs r1 t1 ∧ t1 + (n : Int) ≤ 1000000000 ∧ But d wp H H', ?_, fun σ' H' hM => ?_⟩
    · refine ⟨_, rfl, d, _, rfl, gR, rfl, _, rfl, ?_⟩
      by_cases r0 : V.int r = V.int 0
      · refine iteT' (decide_eq_true r0) ?_
        refine ⟨_, rfl, d, _, rfl, gW, by decide, fun p np => ?_⟩
        have npd : d ≠ p := ne_of_none D.dc np
        have npw : wp ≠ p := ne_of_none D.wl np
        have npc : cp ≠ p := ne_of_none D.cl np
        generalize hH1 : upd H p (.lst []) = H1
        have hp1 : H1 p = some (.lst []) := by rw [← hH1, upd_same]
        have D1 : DrawAt H1 d wp cp ws cs r t := ⟨by rw [← hH1, upd_ne npd]; exact D.dc, by rw [← hH1, upd_ne npw]; exact D.wl, by rw [← hH1, upd_ne npc]; exact D.cl, D.cb, D.cn, D.wn, D.t0, D.nwc⟩
        have B1 : But d wp H H1 := fun b o e _ _ => by rw [← hH1, upd_ne (ne_of_none e np)]; exact e
        have gW1 : DGet H1 d (kV kW) (some (.ref wp)) := by
          have z := DGet.k (k := kW) D1.dc
          rw [v_wide] at z
          exact z
        refine ⟨_, _, .lst (SqL.of D1.wl) (dp_ints ws), .lst (SqL.of hp1) .nil, ints_shaped ws, (by decide +kernel), _, rfl, ?_⟩
        cases ws with
        | nil =>
          refine iteF' (by decide +kernel) ?_
          refine ⟨_, rfl, d, wp, cp, [], cs, r, t, rfl, D1, by omega, fun v H' D' B' => ?_⟩
          refine ⟨_, rfl, d, _, rfl, DPut.k (k := kR) D'.dc (show 4 < sizeLine by decide), ?_⟩
          rw [p_rest]
          refine ⟨rfl, [], v, t + 1, ⟨upd_same, by rw [upd_ne nwd]; exact D'.wl, by rw [upd_ne ncd]; exact D'.cl, D'.cb, D'.cn, D'.wn, D'.t0, D'.nwc⟩, by omega, fun b o e n1 n2 => ?_⟩
          rw [upd_ne n1]
          exact B' b o (B1 b o e n1 n2) n1 n1
        | cons w1 wr =>
          refine iteT' (by rw [List.map_cons]; simp [PyData.eqv, PyData.eqvAll]) ?_
          refine ⟨_, rfl, d, _, rfl, gW1, .inl ⟨rfl, _, SqL.of D1.wl⟩, wp, _, 0, 0, _, rfl, rfl, D1.wl, by decide, by decide, ?_, rfl, ?_⟩
          · rw [List.map_cons, List.length_cons]
            simp [seqIndex?]
          have D2 : DrawAt (upd H1 wp (.lst (wr.map V.int))) d wp cp wr cs r t :=
            ⟨by rw [upd_ne nwd.symm]; exact D1.dc, upd_same, by rw [upd_ne D.nwc.symm]; exact D1.cl, D.cb, D.cn, by have := D.wn; rw [List.length_cons] at this; omega, D.t0, D.nwc⟩
          refine ⟨_, rfl, d, _, rfl, DPut.k (k := kR) D2.dc (show 4 < sizeLine by decide), ?_⟩
          rw [p_rest]
          refine ⟨rfl, wr, w1, t, ⟨upd_same, by rw [upd_ne nwd]; exact D2.wl, by rw [upd_ne ncd]; exact D2.cl, D2.cb, D2.cn, D2.wn, D2.t0, D2.nwc⟩, by omega, fun b o e n1 n2 => ?_⟩
          rw [upd_ne n1, upd_ne n2]
          exact B1 b o e n1 n2
      · refine iteF' (decide_eq_false r0) ?_
        exact ⟨rfl, ws, r, t, D, by omega, fun _ _ e _ _ => e⟩
    · obtain ⟨rfl, ws1, r1, t1, D1, tb1, B1⟩ := hM
      have gR1 : DGet H' d (kV kR) (some (.int r1)) := by
        have z := DGet.k (k := kR) D1.dc
        rw [v_rest] at z
        exact z
      refine ⟨_, rfl, d, _, rfl, gR1, .inl ⟨_, rfl, _, rfl, _, _, rfl, rfl, m0, ?_⟩⟩
      refine ⟨_, rfl, d, _, rfl, gR1, _, rfl, _, _, rfl, rfl, ⟨m0, by omega⟩, _, rfl, d, _, rfl, DPut.k (k := kR) D1.dc (show 4 < sizeLine by decide), ?_⟩
      rw [p_rest]
      have nwd1 : wp ≠ d := nwd
      refine ⟨_, rfl, k _ _ (Int.emod_nonneg _ (by omega)) (Int.emod_lt_of_pos _ m0) ⟨ws1, cs, r1 / m, t1, ⟨upd_same, by rw [upd_ne nwd]; exact D1.wl, by rw [upd_ne ncd]; exact D1.cl, D1.cb, D1.cn, D1.wn, D1.t0, D1.nwc⟩, tb1⟩ fun b o e n1 n2 => ?_⟩
      rw [upd_ne n1]
      exact B1 b o e n1 n2
/-! ### pick -/
def spPick : Sp := fun vs H Q _ => ∃ (d wp cp a : Addr) (n : Nat) (xs : List V), vs = [.ref d, .ref a] ∧ Dr H d wp cp (n + 1) ∧ H a = some (.lst xs) ∧ a ≠ wp ∧ 0 < xs.length ∧ xs.length < 1000000 ∧
  ∀ (i : Nat) (y : V) (H' : Hp), xs[i]? = some y → Dr H' d wp cp n → But d wp H H' → Q y H'
theorem ok_pick {f g : Addr} {fd gd : FuncData} (F : Fun K "_law_pick" "_law_pick" sPick f fd) (ml : mg "len" = none)
    (G : FnOk P w K mg base CX0 2 g gd ["draw", "many"] spTake) (mgf : mg "_law_take" = some (.ref g)) (kp : PySem.W.keepIn K (.ref g) = true) (b : Binds K gd ["draw", "many"] []) : FnOk P w K mg base CX0 3 f fd ["draw", "some"] spPick := by
  refine F.ok scP (fun vs H Q E h => ?_) (fun cdv A outer s H vs Q E hr h => ?_)
  · obtain ⟨d, wp, cp, a, n, xs, rfl, _⟩ := h
    rfl
  · obtain ⟨d, wp, cp, a, n, xs, rfl, D, ha, nw, l0, l1, k⟩ := h
    refine ⟨_, pss_one (ps_ret (pe_ix ix_list (pv 1) (pe_call G (hr.mono (by decide)) rfl mgf kp b .nil pass0 (pa_cons (pv 0) (pa_cons (pe_callB call_len_seq (by rfl) ml PySem.boot_len (pa_cons (pv 1) pa_nil)) pa_nil))) (fun _ _ => rfl))), ?_⟩
    have nd : a ≠ d := by
      obtain ⟨ws, cs, r, t, D1, _⟩ := D
      exact ne_of ha D1.dc (by intro z; cases z)
    refine ⟨_, rfl, _, rfl, _, rfl, a, _, rfl, .inl (SqL.of ha), ?_⟩
    refine ⟨d, wp, cp, n, (xs.length : Int), rfl, D, by omega, by omega, fun v H' v0 v1 D' B' => ?_⟩
    have ha' := B' a _ ha nd nw
    have hlt : v.toNat < xs.length := by omega
    refine ⟨a, xs, v, _, rfl, rfl, SqL.of ha', ?_, k v.toNat _ _ (List.getElem?_eq_getElem hlt) D' B'⟩
    have e := atI_nat (List.getElem?_eq_getElem hlt)
    rw [Int.toNat_of_nonneg v0] at e
    exact e
/-! ### begun -/
theorem upd_upd_same {H : Hp} {a : Addr} {o o' : HO} : upd (upd H a o) a o' = upd H a o' := by
  funext b
  by_cases e : b = a
  · rw [e, upd_same, upd_same]
  · rw [upd_ne e, upd_ne e, upd_ne e]
def cellOf (g : Int) : Int := (if g < 0 then -g else g) % 2147483629
def wideOf (ns : List Int) : List Int := (ns.filter fun g => decide ((if g < 0 then -g else g) ≥ (10 : Int) ^ 18)).map fun g => (if g < 0 then -g else g) - (10 : Int) ^ 18
def spBegun (K : PySem.W.Frag) : Sp := fun vs H Q _ => ∃ (a : Addr) (ns : List Int), vs = [.ref a] ∧ SqL K H a (ns.map V.int) ∧ ns.length ≤ 63 ∧
  ∀ (d wp cp : Addr) (H' : Hp), H d = none → H wp = none → H cp = none → Dr H' d wp cp 999999999 → (∀ b o, H b = some o → H' b = some o) → Q (.ref d) H'
theorem ok_begun {f : Addr} {fd : FuncData} (F : Fun K "_law_begun" "_law_begun" sBegun f fd) (mi : mg "int" = none) (ma : mg "abs" = none) : FnOk P w K mg base CX0 1 f fd ["script"] (spBegun K) := by
  refine F.ok scB (fun vs H Q E h => ?_) (fun cdv A outer s H vs Q E hr h => ?_)
  · obtain ⟨a, ns, rfl, _⟩ := h
    rfl
  · obtain ⟨a, ns, rfl, hS, hn, k⟩ := h
    have hu := hu_of hr
    refine ⟨_, pss_cons (ps_setLc (i := 1) (own := [("grain", 2)]) (g := gName 2) (by rfl) scB.nd rfl rfl (sw_true rfl rfl rfl (by decide +kernel)) (pi_list (pv 0)) (blkOk_by (own := [("grain", 2)]) (N := ["script", "wide", "grain"]) (sc := defScope sBegun) (by decide +kernel))
          (fun _ _ _ _ _ => pg_name (i := 2) scB.nd rfl (Or.inl rfl)) (fun _ _ _ _ _ => pts_one (pt_cmpR op_ge (pe_callB call_abs (by rfl) ma (by decide +kernel) (pa_cons (pv 2) pa_nil)) (pe_op op_pow pe_int pe_int) (nomark _)))
          (fun _ _ _ _ _ => pe_op op_sub (pe_callB call_abs (by rfl) ma (by decide +kernel) (pa_cons (pv 2) pa_nil)) (pe_op op_pow pe_int pe_int)))
      (pss_one (ps_ret (pe_disp (pps_cons pe_str (pv 1) (pps_cons pe_str
        (pe_lc (own := [("grain", 2)]) (g := gName 2) (tt := tYes) (by rfl) scB.nd (pi_list (pv 0)) (blkOk_by (own := [("grain", 2)]) (N := ["script", "wide", "grain"]) (sc := defScope sBegun) (by decide +kernel))
          (fun _ _ _ _ _ => pg_name (i := 2) scB.nd rfl (Or.inl rfl)) (fun _ _ _ _ _ => pts_nil)
          (fun _ _ _ _ _ => pe_op op_mod (pe_callTy call_int1 (by rfl) mi (by decide +kernel) (pa_cons (pe_callB call_abs (by rfl) ma (by decide +kernel) (pa_cons (pv 2) pa_nil)) pa_nil)) pe_int))
        (pps_cons pe_str pe_int (pps_cons pe_str pe_int pps_nil)))) (by rfl) (by rfl) (fun z => by cases z) (by decide)))), ?_⟩
    refine ⟨_, rfl, a, rfl, ⟨_, hS⟩, fun D nD => ?_⟩
    have same1 : ∀ {o : HO}, Same H (upd H D o) := fun {o} b u e => by rw [upd_ne (ne_of_none e nD)]; exact e
    refine lc_list (K := K) (a := a) (xs := ns.map V.int) (fun i H' => ∃ acc : List Int, H' = upd H D (.lst (acc.map V.int)) ∧ acc.length ≤ i) ⟨[], rfl, Nat.le_refl _⟩ (fun i H' _ h => ?_) (fun i x H' hx h => ?_) (fun H' h => ?_)
    · obtain ⟨acc, rfl, _⟩ := h
      exact same1.seq hS
    · obtain ⟨acc, rfl, al⟩ := h
      obtain ⟨g, hg, rfl⟩ := List.mem_map.mp (List.mem_of_getElem? hx)
      have hi : i < (ns.map V.int).length := (List.getElem?_eq_some_iff.mp hx).1
      rw [List.length_map] at hi
      refine ⟨rfl, _, rfl, _, rfl, _, _, rfl, rfl, ⟨by decide, by decide, by decide⟩, _, _, rfl, rfl, _, rfl, ?_⟩
      by_cases c : (10 : Int) ^ (18 : Int).toNat ≤ (if g < 0 then -g else g)
      · refine iteT' (decide_eq_true c) ?_
        refine ⟨_, rfl, _, rfl, _, _, rfl, rfl, ⟨by decide, by decide, by decide⟩, _, _, rfl, rfl, _, upd_same, by rw [List.length_map, sizeLine_eq]; omega, acc ++ [(if g < 0 then -g else g) - (10 : Int) ^ (18 : Int).toNat], ?_, by rw [List.length_append]; show acc.length + 1 ≤ i + 1; omega⟩
        rw [upd_upd_same, List.map_append]
        rfl
      · refine iteF' (decide_eq_false c) ?_
        exact ⟨acc, rfl, by omega⟩
    · obtain ⟨acc, rfl, al⟩ := h
      rw [List.length_map] at al
      intro p np
      generalize hH1 : upd H D (.lst (acc.map V.int)) = H1 at np
      have hD1 : H1 D = some (.lst (acc.map V.int)) := by rw [← hH1, upd_same]
      have s1 : Same H H1 := by rw [← hH1]; exact same1
      have nDp : D ≠ p := ne_of_none hD1 np
      have s2 : Same H1 (upd H1 p (.dK [])) := fun b u e => by rw [upd_ne (ne_of_none e np)]; exact e
      have hp0 : H p = none := by
        cases e : H p with
        | none => rfl
        | some o => exact absurd (s1 p o e) (by rw [np]; intro z; cases z)
      have sq : SqL K (upd H1 p (.dK [])) a (ns.map V.int) := s2.seq (s1.seq hS)
      refine ⟨_, rfl, _, rfl, a, rfl, ⟨_, sq⟩, fun C nC => ?_⟩
      have nCp : p ≠ C := ne_of_none upd_same nC
      have nCD : D ≠ C := ne_of_none (s2 _ _ hD1) nC
      have s3 : ∀ {o : HO}, Same (upd H1 p (.dK [])) (upd (upd H1 p (.dK [])) C o) := fun {o} b u e => by rw [upd_ne (ne_of_none e nC)]; exact e
      have hC0 : H C = none := by
        cases e : H C with
        | none => rfl
        | some o => exact absurd (s2 _ _ (s1 C o e)) (by rw [nC]; intro z; cases z)
      refine lc_list (K := K) (a := a) (xs := ns.map V.int) (fun i H' => ∃ cs : List Int, H' = upd (upd H1 p (.dK [])) C (.lst (cs.map V.int)) ∧ cs.length ≤ i ∧ ∀ c ∈ cs, 0 ≤ c ∧ c < 2147483629) ⟨[], rfl, Nat.le_refl _, fun c h => nomatch h⟩ (fun i H' _ h => ?_) (fun i x H' hx h => ?_) (fun H' h => ?_)
      · obtain ⟨cs, rfl, _⟩ := h
        exact s3.seq sq
      · obtain ⟨cs, rfl, cl, cb⟩ := h
        obtain ⟨g, hg, rfl⟩ := List.mem_map.mp (List.mem_of_getElem? hx)
        have hi : i < (ns.map V.int).length := (List.getElem?_eq_some_iff.mp hx).1
        rw [List.length_map] at hi
        refine ⟨rfl, _, rfl, _, rfl, .inl ⟨_, rfl, _, _, rfl, rfl, (show (0 : Int) < 2147483629 by decide), _, upd_same, by rw [List.length_map, sizeLine_eq]; omega, cs ++ [(if g < 0 then -g else g) % 2147483629], ?_, by rw [List.length_append]; show cs.length + 1 ≤ i + 1; omega, fun c hc => ?_⟩⟩
        · rw [upd_upd_same, List.map_append]
          rfl
        · rcases List.mem_append.mp hc with hc | hc
          · exact cb c hc
          · rw [List.mem_singleton] at hc
            rw [hc]
            exact ⟨Int.emod_nonneg _ (by decide), Int.emod_lt_of_pos _ (by decide)⟩
      · obtain ⟨cs, rfl, cl, cb⟩ := h
        rw [List.length_map] at cl
        refine ⟨by rw [upd_ne nCp, upd_same], dkv D C 0 0, rfl, (show 4 ≤ 15 by decide), ?_⟩
        have em : mergeK [] (dkv D C 0 0) = dkv D C 0 0 := by
          show putK (putK (putK (putK ([] : List (Key × V)) kW (.ref D)) kC (.ref C)) kR (.int 0)) kT (.int 0) = _
          have e1 : putK ([] : List (Key × V)) kW (.ref D) = [(kW, .ref D)] := putK_new _ rfl
          rw [e1, putK_new (kvs := [(kW, V.ref D)]) (k := kC) _ ((valV_neg (p := (kW, V.ref D)) kWC).trans rfl)]
          rw [putK_new (kvs := [(kW, V.ref D)] ++ [(kC, V.ref C)]) (k := kR) _ ((valV_neg (p := (kW, V.ref D)) kWR).trans ((valV_neg (p := (kC, V.ref C)) kCR).trans rfl))]
          rw [putK_new (kvs := [(kW, V.ref D)] ++ [(kC, V.ref C)] ++ [(kR, V.int 0)]) (k := kT) _ ((valV_neg (p := (kW, V.ref D)) kWT).trans ((valV_neg (p := (kC, V.ref C)) kCT).trans ((valV_neg (p := (kR, V.int 0)) kRT).trans rfl)))]
          rfl
        rw [em]
        refine k p D C _ hp0 nD hC0 ⟨_, cs, 0, 0, ⟨upd_same, by rw [upd_ne nDp, upd_ne nCD, upd_ne nDp]; exact hD1, by rw [upd_ne nCp.symm, upd_same], cb, by omega, by omega, by decide, nCD⟩, by decide⟩ fun b o e => ?_
        rw [upd_ne (ne_of_none e hp0)]
        exact s3 b o (s2 b o (s1 b o e))
end
end Dw
set_option Elab.async false
set_option linter.all false
set_option maxRecDepth 100000
set_option maxHeartbeats 2000000
/-! super().__init__(text) of an own error class, over the hand layer. -/
namespace Sx
open PySem PySem.Spec PyProof.Rows L2
section
variable {prog : Program} {w : World} {A : Around} {E : Value → Shared → Prop} {h : Heap} {g : Array GenState} {d : Drawn} {t : Nat} {os : OsState}
variable {nm q : Str} {C N : Addr} {bs bm : List Value} {hdct : Bool} {sn : List Str} {sub : List Value} {ab : Bool} {col : Option Bool} {dd : Option Addr} {k0 k1 k2 k3 k5 : Option Value}
/-- the bound ValueError.__init__ is called -/
theorem call_mw {u e t0 : Addr} {us : List Value} {Q : Value → Shared → Prop} (hC : h.get? C = some (excClassObj nm q C N bs bm hdct sn sub ab col dd k0 k1 k2 k3 k5 "ValueError.__new__"))
    (he : h.get? e = some (PySem.HandSPX.excO C t0)) (hu : h.get? u = some (PySem.W.kxs_mw "ValueError.__init__" e)) (hz : us.length ≤ sizeLine)
    (hq : ∀ h' t1, (∀ b o, b ≠ e → h.get? b = some o → h'.get? b = some o) → h'.get? e = some (PySem.HandSPX.excO C t1) → Q .none ⟨h', g, d, t, os⟩) :
    wpAny (model prog w) A (call (.ref u) us) Q E ⟨h, g, d, t, os⟩ := by
  refine wpAny_call (codeAny_of_tree ?_); show wpAny _ A.in1 (callAny (.ref u) ⟨us, []⟩) _ _ _; simp only [callAny]
  refine wpAny_bind (wpAny_load hu ?_); simp only [PySem.W.kxs_mw, show (Value.type "method-wrapper" == Value.type "method" || Value.type "method-wrapper" == Value.type "builtin_function_or_method" || Value.type "method-wrapper" == Value.type "method-wrapper") = true by decide, if_true]
  refine PySem.W.KFB.if_so (by decide) (wpAny_bind (PySem.W.check_bound_init F.excBase_ValueError.toExcCallFacts hC he rfl ?_))
  refine wpAny_bind (wpAny_pure (wpAny_pure ⟨PySem.plainId_quiet F.excBase_ValueError.init.plain _, codeAny_builtin F.excBase_ValueError.initEntry ?_⟩))
  exact PySem.W.exc_init_tree (cls := .ref C) (t0 := t0) (dv := none) (c2 := .none) (c3 := .none) (b4 := .bool false) he hz fun h' k e1 _ => hq h' _ k e1
end
section
variable {X : Cx} {pins : List (Addr × Obj)} {σ : L2.St} {H : Hp} {s : Shared} {a C D f cc cda : Addr} {oc : Value} {od : Option Addr} {fd : FuncData} {osl : Array (Option Value)} {ar : Arg} {vs : Array Value} {file : Str} {tf : Tok} {ccl cl : Value} {cdd cld : Option Addr} {ccs csl : Array (Option Value)} {cdD : ClassData}
theorem super_init {body : List Stmt} {p0 p1 p2 pos pos' cp : Pos} {j : Nat} {x : Str} {pl : Sem Bool} (I : Inv X pins σ H s)
    (hks : X.env.scope.names.lookup ("super" : Str) = some .globalImplicit) (hkc : X.env.scope.names.lookup ("__class__" : Str) = some .free) (hcells : X.env.cells.lookup ("__class__" : Str) = some cc)
    (hfu : X.env.func = some f) (hf : X.K.lookup f = some ⟨oc, od, .func fd, osl⟩) (hp : (fd.params.posonlyargs ++ fd.params.args).head? = some ar)
    (hka : X.env.scope.names.lookup ar.arg = some .local) (hN : X.N[0]? = some ar.arg) (hσ : σ[0]? = some (some (.ref a)))
    (hco : X.env.code = .ref cda) (hcode : X.K.lookup cda = some ⟨ccl, cdd, .fields vs, ccs⟩) (hvs : vs[2]? = some (.str file tf)) (hfile : ((X.prog.main.file : Str) == file) = true)
    (htop : (X.prog.main.scope.names.lookup ("super" : Str)).isSome = false) (hcell : X.K.lookup cc = some ⟨cl, cld, .cell (some (.ref D)), csl⟩) (hD : PySem.W.clsIn X.K D = some cdD)
    (hsub : PySem.W.mroIn X.K C (.ref D) = some true) (hsuper : X.mg "super" = none) (hopq : PySem.W.nsIn X.K cStatics "thirdparty.any" = some none)
    (hm : PySem.W.ks_superIn X.K C D "__init__" = some (some (.builtin "ValueError.__init__"))) (hB : PySem.W.subIn X.K (.ref C) (.type "ValueError") = some true)
    (T : OexC X.K C) (ea : H a = some (exo a C none)) (hint : interactive X.env = false)
    (hsw : swapsWith (.Call (.Attribute (.Call (.Name "super" p0) [] [] p1) "__init__" p2) [.Constant (.str x) j cp] [] pos) none pos'.line X.env = pure false)
    (he : starEach [.Constant (.str x) j cp] X.env = (false, eval (.Constant (.str x) j cp) X.env) :: starEach [] X.env)
    (hev : eval (.Call (.Attribute (.Call (.Name "super" p0) [] [] p1) "__init__" p2) [.Constant (.str x) j cp] [] pos) X.env = (do
      let ov ← attributeBase (.Call (.Name "super" p0) [] [] p1) "__init__" X.env (eval (.Call (.Name "super" p0) [] [] p1) X.env)
      standAt p2.atName; let (f, first) ← holding [ov] (getMethod ov "__init__" pl); callWith pos f first (backTo pos (starEach [.Constant (.str x) j cp] X.env)) [])) :
    PySem.wpAt (model X.prog X.w) X.A (.func body X.env) (exec (.Expr (.Call (.Attribute (.Call (.Name "super" p0) [] [] p1) "__init__" p2) [.Constant (.str x) j cp] [] pos) pos') X.env) (fun fl s' => fl = .next ∧ Inv X pins σ H s') X.xe s := by
  refine ks_wpAt_Expr_any (ks_wpAt_MethodCall ?_ hev) hint hsw
  refine ks_wpAt_super_base hks hkc rfl hfu (I.kIn _ _ hf) rfl hp hco (I.kIn _ _ hcode) rfl hvs hfile htop ?_
  obtain ⟨mb, hb1, hb2⟩ := I.mod.blt
  refine PySem.W.ks_loadName_global I.ok.kind hks (Calls.loadGlobal_builtin (by rw [I.ok.glob]; exact I.mod.glob.keeps I.bk) hsuper (by rw [I.ok.blt]; exact hb1.keeps I.bk) ((hb2 _ (by decide +kernel)).trans PyProof.Rows.Boot.«super») ⟨rfl, ?_⟩)
  refine wpAny_loadName_free I.ok.kind hkc hcells ⟨_, I.kIn _ _ hcell, rfl⟩ ?_
  obtain ⟨m, hns, hl⟩ := id I.loc
  obtain ⟨u, ru, lu⟩ := hl 0 _ _ hN hσ (.inl hka)
  obtain rfl : u = Value.ref a := ru
  have lv : m ar.arg = some (.ref a) := by
    rcases lu with ⟨_, z⟩ | ⟨z, _⟩
    · exact z
    · have k : X.env.kindOf ar.arg = some .local := hka
      rw [k] at z
      rcases z with z | z <;> cases z
  refine wpAny_loadName_local I.ok.kind hka hns lv ?_
  obtain ⟨t1, ho⟩ := exo_at I.hok ea
  obtain ⟨hp', g, d, t, os⟩ := s
  obtain ⟨oD, hD1, hD2⟩ : ∃ oD, hp'.get? D = some oD ∧ oD.data = .cls cdD := by
    unfold PySem.W.clsIn at hD
    split at hD
    · rename_i ho'
      cases hD
      exact ⟨_, I.kIn _ _ ho', rfl⟩
    · cases hD
  refine ks_wpAny_isType_cls hD1 hD2 ⟨rfl, ?_⟩
  refine ks_wpAny_call_super hD1 hD2 ho rfl (fun c e => by cases e) (PySem.W.looks_mroIn I.kIn hsub) (fun h1 e1 k1 => ?_)
  obtain ⟨nm, q, N, bs, bm, sn, sub, ab, col, dd, k0, k1', k2, k3, k5, hC, hbm⟩ := T.cls
  have KX := I.kIn
  have KX1 : X.K.In h1 := KX.keeps k1
  have IA : PySem.W.InstAt hp' a { cls := .ref C, dict := none, data := .fields #[.ref t1, .none, .none, .none, .bool false, .none] } C none := ⟨ho, rfl, rfl, trivial⟩
  have IA1 : PySem.W.InstAt h1 a { cls := .ref C, dict := none, data := .fields #[.ref t1, .none, .none, .none, .bool false, .none] } C none := ⟨k1 _ _ ho, rfl, rfl, trivial⟩
  cases hc : PySem.W.clsIn X.K C with
  | none => unfold PySem.W.ks_superIn at hm; rw [hc] at hm; cases hm
  | some cd =>
    unfold PySem.W.ks_superIn at hm
    rw [hc] at hm
    refine PySem.W.kxs_getMethod PySem.W.kxs_ValueError e1 (PySem.W.looks_opaque KX1 hopq) (l₀ := cd.mro) (fun A Q E s k q => wpAny_bind ((PySem.W.looks_clsIn KX1 hc) A _ E s k (wpAny_pure q))) rfl KX1 hm
      (IA1.type.andThen (PySem.W.looks_subIn KX1 hB)) (PySem.W.ks_ne KX1 IA1 hc) (by decide) ?_
    generalize hh2 : h1.push (PySem.W.kxs_mw "ValueError.__init__" a) = h2
    have k2' : ∀ b o, hp'.get? b = some o → h2.get? b = some o := fun b o e => by rw [← hh2]; exact Heap.get?_push_of_some _ (k1 b o e)
    have KX1' : X.K.In h2 := KX.keeps k2'
    have hu2 : h2.get? h1.objs.size = some (PySem.W.kxs_mw "ValueError.__init__" a) := by rw [← hh2]; exact Heap.get?_push_at rfl rfl
    have I2 : Inv X pins σ H ⟨h2, g, d, t + 1, os⟩ := I.kept (t' := t + 1) k2'
    rw [he]
    refine PySem.W.kxs_callWith (i := "ValueError.__init__") (x := a) (by rfl) (Calls.evalArgs_plain ?_)
    refine Calls.spliced_cons (wpAny_Constant_str (k := j) (pos := cp) (Calls.spliced_nil ⟨hu2, ?_⟩))
    refine call_mw (KX1' _ _ hC) (k2' _ _ ho) hu2 (by show 1 ≤ sizeLine; rw [sizeLine_eq]; omega) fun h3 t3 k3 hx => ⟨rfl, ?_⟩
    have J := I2.write (t' := t + 1 + 1) (x := a) (e := a) (o := exo a C none) (by rw [ea]; exact True.intro) (.inl rfl) k3 ⟨_, hx⟩ (exo_ok hx)
    have eu : upd H a (exo a C none) = H := funext fun b => by
      by_cases hb : b = a
      · rw [hb, upd_same, ea]
      · exact upd_ne hb
    rw [eu] at J
    exact J
end
section
open NdefX
variable {CX : CXT} {P : Program} {w : World} {K : PySem.W.Frag} {mg : Str → Option Value} {base : Heap} {N ps fr : List Str} {ws : List (Option V)} {F : NF} {f : Addr} {k : Nat} {sp : Sp} {st : Stmt} {rest : List Stmt} {oc doc pm ctv : Value} {od : Option Addr} {osl : Array (Option Value)}
/-- a written def that captures cells, its first statement known by its activation, the others by the layer -/
theorem fn_first (hb0 : F.body = st :: rest) (lk : K.lookup f = some ⟨oc, od, .func (F.fd doc pm ctv), osl⟩) (hcd : PySem.W.codeIn K (.ref F.c) F.qual = true) (S : NScope N ps fr F.scope)
    (C : ∀ (A : Around) (outer : List Env) (s : Shared) (H : Hp), Env0 P w K mg base A outer s H → CellsAt F.cl fr ws s.heap H) (len : ∀ vs H Q E, sp vs H Q E → vs.length = ps.length)
    (h1 : ∀ (A : Around) (outer : List Env) (s : Shared) (H : Hp) (vs : List V) (Q : VK) (E : XK), Room k (A.deeper (envF F f s.heap.objs.size)) → sp vs H Q E → ∀ s1, Inv (ncx CX P w K mg base N F f A outer s H E) [] (startF N vs ws) H s1 →
      PySem.wpAt (model P w) (A.deeper (envF F f s.heap.objs.size)) (.func F.body (envF F f s.heap.objs.size)) (exec st (envF F f s.heap.objs.size)) (fun fl s' => fl = .next ∧ Inv (ncx CX P w K mg base N F f A outer s H E) [] (startF N vs ws) H s') (ncx CX P w K mg base N F f A outer s H E).xe s1)
    (h2 : ∀ (A : Around) (outer : List Env) (s : Shared) (H : Hp) (vs : List V) (Q : VK) (E : XK), Room k (A.deeper (envF F f s.heap.objs.size)) → sp vs H Q E →
      ∃ t, PSs (ncx CX P w K mg base N F f A outer s H E) rest t ∧ t { nx := fun _ H' => Q .non H', rt := Q } (startF N vs ws) H) :
    FnOk P w K mg base CX (k + 1) f (F.fd doc pm ctv) ps sp := by
  refine ⟨len, fun A outer s H args us vs Q E hr e0 hb r hsp => ?_⟩
  have hl := len _ _ _ _ hsp
  have KX : K.In s.heap := e0.mod.kin.keeps fun b o e => (e0.bs b o e).1
  have lim : s.heap.NoLimit := e0.mod.nolimit.keeps fun b o e => (e0.bs b o e).1
  refine codeAny_call_function hr.depth (KX _ _ lk) rfl S.co S.gen rfl (PySem.W.codeRec_of KX hcd) (hb _ _ _ _ ?_)
  refine wpAny_newFunctionEnv S.nocell (fun ⟨n, _⟩ hy => S.par n (List.of_mem_zip hy).1) (fun h₁ hns hsb => ⟨lim.fresh _ hsb, ks_codeAny_funcAt ?_⟩) S.kind
  have kp : ∀ b o, s.heap.get? b = some o → h₁.get? b = some o := fun b o e => hsb.extBut b o (Nat.ne_of_lt (Heap.lt_size e)) (Heap.get?_push_of_some _ e)
  have I := inv_startN (CX := CX) (N := N) (F := F) (f := f) (E := E) (tk := s.toks + (ps.zip us).length) S hr.hd e0 hl r (C A outer s H e0) hns kp
  have q1 := h1 A outer s H vs Q E (hr.deeper _) hsp _ I
  obtain ⟨t, ht, hq⟩ := h2 A outer s H vs Q E (hr.deeper _) hsp
  show PySem.wpAt _ _ _ (execs F.body (envF F f s.heap.objs.size)) _ _ _
  rw [show execs F.body (envF F f s.heap.objs.size) = execs (st :: rest) (envF F f s.heap.objs.size) from by rw [hb0]]
  refine ks_wpAt_execs_cons (PySem.wpAt_mono q1 (fun fl s2 hfl => ?_) fun e s2 z => z)
  obtain ⟨rfl, J⟩ := hfl
  refine PySem.wpAt_of_wpAny (wpAny_mono (ht.run [] s2 (startF N vs ws) H _ J hq) (fun fl s' hs => ?_) fun e s' hs => hs)
  have fin : ∀ {σ' : L2.St} {H' : Hp} {v : V} {u : Value}, Inv (ncx CX P w K mg base N F f A outer s H E) [] σ' H' s' → L2.RelV v u → Q v H' → CE outer P w H s Q u s' := fun J r q => ⟨_, _, J.os, J.bare, J.base, J.hok, r, q⟩
  cases fl with
  | ret u => exact let ⟨_, _, _, J, r, q⟩ := hs; fin J r q
  | next => exact let ⟨_, _, J, q⟩ := hs; fin (v := V.non) (u := Value.none) J rfl q
  | brk => exact let ⟨_, _, _, q⟩ := hs; q.elim
  | cont => exact let ⟨_, _, _, q⟩ := hs; q.elim
end
section
variable {X : Cx} {e : Expr} {es : List Expr} {ta : TA} {p pos : Pos}
/-- C(e, ..) as a value, C an own error class with an __init__ of its own: the new error stays known -/
theorem pe_err {CX : CXT} {x : Str} {C fI : Addr} {k : Nat} {fd : FuncData} {ps : List Str} {sp : Sp} (T : OexC X.K C) (iC : PySem.W.findIn X.K (.ref C) "__init__" = some (some (.ref fI))) (tI : PySem.W.typeIn X.K (.ref fI) = some (.type "function"))
    (F1 : FnOk X.prog X.w X.K X.mg X.base CX k fI fd ps sp) (hr : Room (k + 1) X.A) (hb : Binds X.K fd ps []) (hx : Passes CX X E0) (hg : Gl X x) (hm : X.mg x = some (.ref C)) (ha : PA X (e :: es) ta)
    (hdb : (x == ("__debug__" : Str)) = false := by decide) (he : starEach (e :: es) X.env = (false, eval e X.env) :: starEach es X.env := by rfl) (hpl : (backTo pos (starEach es X.env)).any (·.1) = false := by rfl) :
    PE X (.Call (.Name x p) (e :: es) [] pos) (fun σ H Q => ta σ H fun vs H1 => vs.length ≤ 1000 ∧ ∀ a, H1 a = none → sp (.ref a :: vs) (upd H1 a (exo a C none)) (fun v H2 => v = .non ∧ Q (.ref a) H2) E0) := by
  refine ⟨fun pins s σ H Q I h => ?_⟩
  obtain ⟨nm, q, N, bs, bm, sn, sub, ab, col, dd, k0, k1, k2, k3, k5, hC, hbm⟩ := T.cls
  refine wpAny_Call_Name_kw (ld_glob I hg hm (PySem.W.callWith_K (h₀ := X.base) I.ok.mod.kin T.kC (thn (ha.run pos pins s σ H _ I h) fun us s1 ⟨vs, H1, I1, r1, hz, q1⟩ => ⟨I1.kIn, ?_⟩) he hpl) hdb)
  show wpAny _ _ (call (.ref C) us) _ _ _
  obtain ⟨hp, g, dr, tk, os⟩ := s1
  have hn : H1 (hp.objs.size + 1) = none := I1.hok.fresh (Nat.le_succ _)
  have hq := q1 _ hn
  have hget : ((hp.push (PySem.W.kdv_tup us)).push (PySem.HandSPX.excO C hp.objs.size)).get? (hp.objs.size + 1) = some (PySem.HandSPX.excO C hp.objs.size) := by heap_get
  have I2 : Inv X pins σ (upd H1 (hp.objs.size + 1) (exo (hp.objs.size + 1) C none)) ⟨(hp.push (PySem.W.kdv_tup us)).push (PySem.HandSPX.excO C hp.objs.size), g, dr, tk, os⟩ :=
    I1.laid (t' := tk) (a := hp.objs.size + 1) (o := exo (hp.objs.size + 1) C none) (fun b o e => Heap.get?_push_of_some _ (Heap.get?_push_of_some _ e)) (Nat.le_succ _) (exo_ok hget)
  have r2 : Vals (V.ref (hp.objs.size + 1) :: vs) (Value.ref (hp.objs.size + 1) :: us) := .cons rfl r1
  have hl : (Value.ref (hp.objs.size + 1) :: us ++ []).length = ps.length := by rw [List.append_nil, ← r2.length]; exact F1.len _ _ _ _ hq
  have hus : us.length ≤ sizeLine := by rw [← Paired.length r1, sizeLine_eq]; omega
  refine wpAny_call (PySem.HandSPX.call_own F.excBase_ValueError (fun Y => PySem.HandSPX.refsVE_contains Y bm hbm) (I1.kIn _ _ hC) (PySem.W.looks_findIn I1.kIn iC) (fun self => PySem.W.bind_fn I1.kIn self tI) hus
    (codeAny_mono (F1.run _ X.stack _ _ ⟨Value.ref (hp.objs.size + 1) :: us, []⟩ (Value.ref (hp.objs.size + 1) :: us) _ _ E0 (hr.make C us []) (I2.env0.make C us []) (by have z := hb _ (Value.ref (hp.objs.size + 1) :: us) I2.kIn hl; rw [List.append_nil] at z; exact z) r2 hq) fun r s' hq' => ?_))
  cases r with
  | error er => exact hx pins σ _ _ er s' I2 hq'
  | ok fl =>
    cases fl with
    | ret u =>
      obtain ⟨v, H3, I3, rv, ev, q3⟩ := I2.after hq'
      subst ev
      exact ⟨rv, .ref (hp.objs.size + 1), H3, I3, rfl, q3⟩
    | next => exact False.elim hq'
    | brk => exact False.elim hq'
    | cont => exact False.elim hq'
end
section
variable {X : Cx} {e : Expr} {es : List Expr} {ta : TA} {p pos : Pos}
/-- C(e, ..) as a value, C an own error class without an __init__ of its own -/
theorem pe_err0 {x : Str} {C : Addr} (T : OexC X.K C) (iC : PySem.W.findIn X.K (.ref C) "__init__" = some (some (.builtin "ValueError.__init__"))) (hg : Gl X x) (hm : X.mg x = some (.ref C)) (ha : PA X (e :: es) ta)
    (hdb : (x == ("__debug__" : Str)) = false := by decide) (he : starEach (e :: es) X.env = (false, eval e X.env) :: starEach es X.env := by rfl) (hpl : (backTo pos (starEach es X.env)).any (·.1) = false := by rfl) :
    PE X (.Call (.Name x p) (e :: es) [] pos) (fun σ H Q => ta σ H fun vs H1 => vs.length ≤ 1000 ∧ ∀ a, H1 a = none → Q (.ref a) (upd H1 a (exo a C none))) := by
  refine ⟨fun pins s σ H Q I h => ?_⟩
  obtain ⟨nm, q, N, bs, bm, sn, sub, ab, col, dd, k0, k1, k2, k3, k5, hC, hbm⟩ := T.cls
  refine wpAny_Call_Name_kw (ld_glob I hg hm (PySem.W.callWith_K (h₀ := X.base) I.ok.mod.kin T.kC (thn (ha.run pos pins s σ H _ I h) fun us s1 ⟨vs, H1, I1, r1, hz, q1⟩ => ⟨I1.kIn, ?_⟩) he hpl) hdb)
  show wpAny _ _ (call (.ref C) us) _ _ _
  obtain ⟨hp, g, dr, tk, os⟩ := s1
  have hus : us.length ≤ sizeLine := by rw [← Paired.length r1, sizeLine_eq]; omega
  refine PySem.W.call_B F.excBase_ValueError (fun Y => PySem.HandSPX.refsVE_contains Y bm hbm) (I1.kIn _ _ hC) (PySem.W.looks_findIn I1.kIn iC) hus fun h' k he1 _ => ?_
  exact ⟨.ref (hp.objs.size + 1), _, I1.laid (t' := tk) (a := hp.objs.size + 1) (o := exo (hp.objs.size + 1) C none) k (Nat.le_succ _) (exo_ok he1), rfl, q1 _ (I1.hok.fresh (Nat.le_succ _))⟩
end
/-- an error of the class C, known as a value: no attributes yet, or these -/
def KErr (H : Hp) (a C : Addr) (fs : List (Str × V)) : Prop := (fs = [] ∧ H a = some (exo a C none)) ∨ ∃ dx, H a = some (exo a C (some dx)) ∧ H dx = some (exd dx fs)
theorem KErr.same {H H' : Hp} {a C : Addr} {fs : List (Str × V)} (k : KErr H a C fs) (e : ∀ b o, H b = some o → H' b = some o) : KErr H' a C fs := by
  rcases k with ⟨h1, h2⟩ | ⟨dx, h1, h2⟩
  · exact .inl ⟨h1, e _ _ h2⟩
  · exact .inr ⟨dx, e _ _ h1, e _ _ h2⟩
theorem KErr.inst {P : Program} {w : World} {H : Hp} {h : Heap} {a C : Addr} {fs : List (Str × V)} (hok : HOk P w H h) (k : KErr H a C fs) : ∃ (ox : Obj) (od : Option Obj), PySem.W.InstAt h a ox C od := by
  rcases k with ⟨_, h2⟩ | ⟨dx, h1, h2⟩
  · obtain ⟨t1, ho⟩ := exo_at hok h2
    exact ⟨_, none, ho, rfl, rfl, trivial⟩
  · obtain ⟨t1, ho⟩ := exo_at hok h1
    obtain ⟨mA, ⟨oD, _, _, hoD, _⟩, _⟩ := exd_at hok h2
    exact ⟨_, some oD, ho, rfl, rfl, hoD⟩
/-- isinstance(error, class) -/
def rIsX (K : PySem.W.Frag) : List V → Hp → VK → Prop := fun xs H Q => ∃ (a D : Addr) (fs : List (Str × V)) (c : V) (cv : Value) (b : Bool), xs = [.ref a, c] ∧ KErr H a D fs ∧ ExcC K D ∧ ClsV c cv ∧ PySem.W.kitOne K (.ref D) cv = some b ∧ Q (.bl b) H
theorem call_isX {X : Cx} : CallR X (.builtin "isinstance") (rIsX X.K) := by
  intro pins s σ H xs us Q I r h
  obtain ⟨a, D, fs, c, cv, b, rfl, ke, C, k, e, q⟩ := h
  obtain ⟨u1, u2, rfl, r1, r2⟩ := vals2 r
  obtain rfl : u1 = Value.ref a := r1
  have e2 := k.eq r2
  subst e2
  obtain ⟨ox, od, J⟩ := ke.inst I.hok
  obtain ⟨cdD, hcD, _⟩ := PySem.W.any_some C.hd
  exact PySem.W.kia_one (PySem.W.kitx_exc (by rw [hcD]; rfl) C.hg C.hk C.hs C.ha C.hn C.ht C.hm) I.kIn J e (fun z => nomatch z) fun tk => ⟨.bl b, H, I.tok tk, rfl, q⟩
/-- error.name -/
theorem pe_xa {X : Cx} {e : Expr} {te : TE} {pos : Pos} {n : Str} (he : PE X e te) (hb : attributeBase e n X.env (eval e X.env) = eval e X.env := by rfl) :
    PE X (.Attribute e n pos) (fun σ H Q => te σ H fun x H1 => ∃ (a C : Addr) (fs : List (Str × V)) (v : V), x = .ref a ∧ KErr H1 a C fs ∧ XfC X.K C ∧ PySem.W.findIn X.K (.ref C) n = some none ∧ fs.lookup n = some v ∧ Q v H1) := by
  refine ⟨fun pins s σ H Q I h => attr_of hb (thn (he.run pins s σ H _ I h) fun u s1 hh => ?_)⟩
  obtain ⟨x, H1, I1, rx, a, C, fs, v, rfl, ke, T, hno, l, q⟩ := hh
  obtain rfl : u = Value.ref a := rx
  rcases ke with ⟨h1, _⟩ | ⟨dx, h1, h2⟩
  · rw [h1] at l; cases l
  · obtain ⟨t1, ho⟩ := exo_at I1.hok h1
    obtain ⟨mA, hns, rel⟩ := exd_at I1.hok h2
    obtain ⟨od, hod, hl⟩ := lookIn_ns hns
    obtain ⟨u, hu, ru⟩ := RelO.some_of (v := v) (o := mA n) (by rw [← l]; exact rel n)
    have J : PySem.W.InstAt s1.heap a _ C (some od) := ⟨ho, rfl, rfl, hod⟩
    exact HandSPX.exc_get I1.kIn J T.ga T.gg T.exC (PySem.W.findObj_own T.hdC hno rfl (by rw [hl, hu])) (handed_of ru) ⟨v, H1, I1.tok _, ru, q⟩
end Sx
set_option Elab.async false
set_option linter.all false
set_option maxRecDepth 100000
set_option maxHeartbeats 2000000
/-! repr of tracked data. -/
namespace Rp
open PySem PySem.Spec PyProof.Rows L2
/-- what repr needs of a value: the data that it reads as, all of its objects tracked -/
def Sh (P : Program) (w : World) (H : Hp) (x : V) (d : PyData) : Prop := ∀ h, HOk P w H h → ∀ u, RelV x u → ∃ as, Reads h u d as ∧ ∀ b ∈ as, ∃ o, H b = some o
def ShAll (P : Program) (w : World) (H : Hp) (xs : List V) (ds : List PyData) : Prop := ∀ h, HOk P w H h → ∀ us, Vals xs us → ∃ as, ReadsAll h us ds as ∧ ∀ b ∈ as, ∃ o, H b = some o
section
variable {P : Program} {w : World} {H H' : Hp} {x : V} {d : PyData} {xs : List V} {ds : List PyData} {a : Addr}
theorem sh_non : Sh P w H .non .none := fun h _ u r => by cases (show u = Value.none from r); exact ⟨[], .none, fun b z => nomatch z⟩
theorem sh_bl (b : Bool) : Sh P w H (.bl b) (.bool b) := fun h _ u r => by cases (show u = Value.bool b from r); exact ⟨[], .bool b, fun b z => nomatch z⟩
theorem sh_int (i : Int) : Sh P w H (.int i) (.int i) := fun h _ u r => by obtain ⟨t, rfl⟩ := (show ∃ t, u = Value.int i t from r); exact ⟨[], .int i t, fun b z => nomatch z⟩
theorem sh_str (y : Str) : Sh P w H (.str y) (.str y) := fun h _ u r => by obtain ⟨t, rfl⟩ := (show ∃ t, u = Value.str y t from r); exact ⟨[], .str y t, fun b z => nomatch z⟩
theorem sh_nil : ShAll P w H [] [] := fun h _ us r => by cases r; exact ⟨[], .nil, fun b z => nomatch z⟩
theorem sh_cons (h1 : Sh P w H x d) (h2 : ShAll P w H xs ds) : ShAll P w H (x :: xs) (d :: ds) := fun h k us r => by
  cases r with
  | cons r1 r2 =>
    obtain ⟨a1, p1, q1⟩ := h1 h k _ r1
    obtain ⟨a2, p2, q2⟩ := h2 h k _ r2
    exact ⟨_, .cons p1 p2, fun b z => (List.mem_append.mp z).elim (q1 b) (q2 b)⟩
theorem sh_lst (ha : H a = some (.lst xs)) (hx : ShAll P w H xs ds) : Sh P w H (.ref a) (.list ds) := fun h k u r => by
  cases (show u = Value.ref a from r)
  obtain ⟨_, its, n, rv, e⟩ := (show ObjOk P w H h a (.lst xs) from k a _ ha)
  obtain ⟨as, p, q⟩ := hx h k its rv
  refine ⟨a :: as, .list e rfl rfl p, fun b z => ?_⟩
  rcases List.mem_cons.mp z with rfl | z
  · exact ⟨_, ha⟩
  · exact q b z
theorem sh_tup (ha : H a = some (.tup xs)) (hx : ShAll P w H xs ds) : Sh P w H (.ref a) (.tuple ds) := fun h k u r => by
  cases (show u = Value.ref a from r)
  obtain ⟨_, its, rv, o, h1, h2, n, h3⟩ := (show ObjOk P w H h a (.tup xs) from k a _ ha)
  obtain ⟨as, p, q⟩ := hx h k its rv
  exact ⟨as, .tuple h1 h2 h3 p, q⟩
theorem sh_dict1 {y : Str} (ha : H a = some (.dK [((Sum.inr y : Key), x)])) (hx : Sh P w H x d) : Sh P w H (.ref a) (.dict [(.str y, d)]) := fun h k u r => by
  cases (show u = Value.ref a from r)
  obtain ⟨_, _, vs, kv, o, es, ep, h1, h2, h3, _, h5, _⟩ := (show ObjOk P w H h a (.dK [((Sum.inr y : Key), x)]) from k a _ ha)
  cases kv with
  | @cons p0 q0 _ _ kr kt =>
    cases kt
    obtain ⟨k1, v1⟩ := q0
    obtain ⟨e1, e2⟩ := kr
    obtain rfl : Sum.inr y = k1 := e1
    generalize he : es.toList = el at h5
    cases h5 with
    | @cons en _ er _ i1 i2 i3 =>
      cases i3
      obtain ⟨as, p, q⟩ := hx h k v1 e2
      have i2 : en.val = v1 := i2
      have ek : ∃ t, en.key = Value.str y t := by
        rcases keyIs_shape (show keyIs (Sum.inr y) en.key = true from i1) with ⟨i, t, h1, h2⟩ | ⟨z, t, h1, h2⟩
        · first | cases h1 | cases h2
        · first | (cases h2; exact ⟨t, h1⟩) | (cases h1; exact ⟨t, h2⟩)
      obtain ⟨t, ek⟩ := ek
      refine ⟨_, .dict (as := [] ++ []) (bs := as ++ []) h1 h2.1 h3 ?_ ?_, fun b z => ?_⟩
      · rw [he, List.map_cons, List.map_nil, ek]
        exact .cons (.str y t) .nil
      · rw [he, List.map_cons, List.map_nil, i2]
        exact .cons p .nil
      · rcases List.mem_cons.mp z with rfl | z
        · exact ⟨_, ha⟩
        · exact q b (by simpa using z)
end
mutual
/-- tracked data, dicts of one text key among it -/
inductive Dt (H : Hp) : V → PyData → Prop
  | non : Dt H .non .none
  | bl (b : Bool) : Dt H (.bl b) (.bool b)
  | int (i : Int) : Dt H (.int i) (.int i)
  | str (x : Str) : Dt H (.str x) (.str x)
  | lst {a : Addr} {xs : List V} {ds : List PyData} : H a = some (.lst xs) → DtAll H xs ds → Dt H (.ref a) (.list ds)
  | tup {a : Addr} {xs : List V} {ds : List PyData} : H a = some (.tup xs) → DtAll H xs ds → Dt H (.ref a) (.tuple ds)
  | one {a : Addr} {y : Str} {x : V} {d : PyData} : H a = some (.dK [((Sum.inr y : Key), x)]) → Dt H x d → Dt H (.ref a) (.dict [(.str y, d)])
inductive DtAll (H : Hp) : List V → List PyData → Prop
  | nil : DtAll H [] []
  | cons {v : V} {vs : List V} {d : PyData} {ds : List PyData} : Dt H v d → DtAll H vs ds → DtAll H (v :: vs) (d :: ds)
end
mutual
theorem Dt.same {H H' : Hp} (e : ∀ b o, H b = some o → H' b = some o) {v : V} {d : PyData} (h : Dt H v d) : Dt H' v d := by
  cases h with
  | non => exact .non
  | bl b => exact .bl b
  | int i => exact .int i
  | str x => exact .str x
  | lst ha hx => exact .lst (e _ _ ha) (hx.same e)
  | tup ha hx => exact .tup (e _ _ ha) (hx.same e)
  | one ha hx => exact .one (e _ _ ha) (hx.same e)
theorem DtAll.same {H H' : Hp} (e : ∀ b o, H b = some o → H' b = some o) {vs : List V} {ds : List PyData} (h : DtAll H vs ds) : DtAll H' vs ds := by
  cases h with
  | nil => exact .nil
  | cons h1 h2 => exact .cons (h1.same e) (h2.same e)
end
mutual
theorem Dt.sh {P : Program} {w : World} {H : Hp} {v : V} {d : PyData} (h : Dt H v d) : Sh P w H v d := by
  cases h with
  | non => exact sh_non
  | bl b => exact sh_bl b
  | int i => exact sh_int i
  | str x => exact sh_str x
  | lst ha hx => exact sh_lst ha hx.sh
  | tup ha hx => exact sh_tup ha hx.sh
  | one ha hx => exact sh_dict1 ha hx.sh
theorem DtAll.sh {P : Program} {w : World} {H : Hp} {vs : List V} {ds : List PyData} (h : DtAll H vs ds) : ShAll P w H vs ds := by
  cases h with
  | nil => exact sh_nil
  | cons h1 h2 => exact sh_cons h1.sh h2.sh
end
section
variable {X : Cx}
/-- repr(x) of tracked data, where no repr runs -/
def rRepr : List V → Hp → VK → Prop := fun xs H Q => ∃ (a : Addr) (d : PyData), xs = [.ref a] ∧ Dt H (.ref a) d ∧ d.showable = true ∧ d.depth ≤ 64 ∧ d.shown.length ≤ sizeLine ∧ Q (.str d.shown) H
theorem call_reprD (hg : X.A.guards = some []) (hu : X.A.units + 100 < cLine) (hs : ∃ mm, X.base.Ns sysModules mm) : CallR X (.builtin "repr") rRepr := by
  intro pins s σ H xs us Q I r h
  obtain ⟨a, d, rfl, sh, h1, h2, h3, q⟩ := h
  obtain ⟨u, rfl, ru⟩ := vals1 r
  obtain rfl : u = Value.ref a := ru
  obtain ⟨as, p, hb⟩ := sh.sh (P := X.prog) (w := X.w) s.heap I.hok (.ref a) rfl
  obtain ⟨mm, o, _, _, ho, _⟩ := hs
  have hn : sysModules ∉ as := fun z => by
    obtain ⟨o', e⟩ := hb _ z
    rw [(I.bs _ _ ho).2] at e
    cases e
  exact repr_of_reads' p h1 (fun _ => hn) hg (by omega) (fun b o e => e) (fun h' u tk k => ⟨.str d.shown, H, I.kept (t' := tk) k, ⟨u, rfl⟩, q⟩) h3
end
end Rp
set_option Elab.async false
set_option linter.all false
set_option maxRecDepth 100000
set_option maxHeartbeats 2000000
/-! The law's own def, at the very frame from which it is called (no repr runs there). -/
namespace Lw
open PySem PySem.Spec PyProof.Rows L2
section
variable {CX : CXT} {P : Program} {w : World} {K : PySem.W.Frag} {mg : Str → Option Value} {base : Heap} {k : Nat} {f : Addr} {name qual : Str} {params : Arguments} {body : List Stmt} {scope : Scope} {dV kV doc pm cdv ct oc : Value} {an od : Option Addr} {osl : Array (Option Value)} {N ps : List Str}
/-- a def of the text by its body, at one frame -/
theorem run_at {A : Around} {outer : List Env} {s : Shared} {H : Hp} {args : Args} {us : List Value} {vs : List V} {Q : VK} {E : XK} (lk : K.lookup f = some ⟨oc, od, .func (PySem.W.fnOf name qual params body scope dV kV doc pm an cdv ct), osl⟩) (hcd : PySem.W.codeIn K cdv qual = true) (S : FnScope N ps scope)
    (hr : Room (k + 1) A) (e0 : Env0 P w K mg base A outer s H) (hb : BindsTo s (PySem.W.fnOf name qual params body scope dV kV doc pm an cdv ct) args (ps.zip us)) (r : Vals vs us) (hl : vs.length = ps.length) {t : TS}
    (ht : PSs (cxOf CX P w K mg base N qual scope f cdv A outer s H E) body t) (hq : t { nx := fun _ H' => Q .non H', rt := Q } (start N vs) H) :
    codeAny (model P w) A (.call (.ref f) args) (CR CX outer P w H s Q E) s := by
  have KX : K.In s.heap := e0.mod.kin.keeps fun b o e => (e0.bs b o e).1
  have lim := e0.mod.nolimit.keeps fun b o e => (e0.bs b o e).1
  refine codeAny_call_function hr.depth (KX _ _ lk) rfl S.co S.gen rfl (PySem.W.codeRec_of KX hcd) (hb _ _ _ _ (wpAny_newFunctionEnv_cells S.kind (fun ⟨n, v⟩ hy => ?_) fun env he s1 x => ?_))
  · rcases S.par n (List.of_mem_zip hy).1 with q | q
    · exact .inl q
    · exact .inr ⟨q, PySem.W.cellsFrom_some _ _ _ (.inl q)⟩
  subst he
  refine ⟨lim.keeps x.toInCall.keep, codeAny_func (wpAny_mono (ht.run [] s1 (start N vs) H _ (inv_start S hr.hd e0 hl r x) hq) (fun fl s' hs => ?_) fun e s' hs => hs)⟩
  cases fl with
  | ret u => exact let ⟨v, _, H', J, rv, q⟩ := hs; ⟨v, H', J.os, J.bare, J.base, J.hok, rv, q⟩
  | next => exact let ⟨_, H', J, q⟩ := hs; ⟨V.non, H', J.os, J.bare, J.base, J.hok, rfl, q⟩
  | brk => exact let ⟨_, _, _, q⟩ := hs; q.elim
  | cont => exact let ⟨_, _, _, q⟩ := hs; q.elim
end
section
variable {P : Program} {w : World} {K : PySem.W.Frag} {mg mb : Str → Option Value} {fa a : Addr} {s : Shared} {vs : List Value} {ns : List Int}
/-- what the law's def must do: from a heap in which the script alone may be tracked -/
def LawAt (P : Program) (w : World) (K : PySem.W.Frag) (mg : Str → Option Value) (fa : Addr) : Prop := ∀ (base : Heap) (s : Shared) (H : Hp) (a : Addr) (ns : List Int), K.In base → base.Ns mainGlobals mg → (∃ mm, base.Ns sysModules mm) → Env0 P w K mg base callerA [] s H → SqL K H a (ns.map V.int) → ns.length ≤ 63 →
  codeAny (model P w) callerA (.call (.ref fa) ⟨[.ref a], []⟩) (CR CX0 [] P w H s (fun v _ => v = .bl true) E0) s
theorem law_here (L : LawAt P w K mg fa) (KX : K.In s.heap) (hns : s.heap.Ns mainGlobals mg) (hb : s.heap.Ns builtinsNs mb) (hbb : ∀ x : Str, x ≠ "__name__" → mb x = bootBuiltins x) (hlim : s.heap.NoLimit) (hsm : ∃ mm, s.heap.Ns sysModules mm) (hg : s.gens = #[])
    (ha : s.heap.get? a = some { cls := .type "list", data := .seq vs.toArray }) (hi : IntsAre vs ns) (hl : ns.length ≤ 63) :
    codeAny (model P w) callerA (.call (.ref fa) ⟨[.ref a], []⟩) (fun r s' => r = .ok (.ret (.bool true)) ∧ OldK s.heap s'.heap ∧ s'.os = s.os ∧ AllBare s'.gens) s := by
  have l63 : ns.length ≤ sizeLine := Nat.le_trans hl (by decide)
  -- one tracked heap for both cases
  suffices main : ∀ H : Hp, (∀ b o, H b = some o → b = a ∧ o = .frz { cls := .type "list", data := .seq vs.toArray } (.lst (ns.map V.int)) ∧ K.lookup a = none) → SqL K H a (ns.map V.int) → codeAny (model P w) callerA (.call (.ref fa) ⟨[.ref a], []⟩) (fun r s' => r = .ok (.ret (.bool true)) ∧ OldK s.heap s'.heap ∧ s'.os = s.os ∧ AllBare s'.gens) s by
    cases hk : K.lookup a with
    | some o =>
      have e := (KX a o hk).symm.trans ha
      cases e
      refine main (fun _ => none) (fun b o z => nomatch (show (none : Option HO) = some o from z)) (.inr ⟨_, vs.toArray, _, hk, rfl, rfl, rfl, ?_, by simpa using vals_ints hi⟩)
      rw [List.size_toArray, hi.length]; exact l63
    | none =>
      refine main (fun b => if b = a then some (.frz { cls := .type "list", data := .seq vs.toArray } (.lst (ns.map V.int))) else none) (fun b o z => ?_) (.inl (.inr ⟨_, if_pos rfl⟩))
      by_cases e : b = a
      · have z := (if_pos e).symm.trans z
        cases z
        exact ⟨e, rfl, hk⟩
      · exact nomatch (if_neg e).symm.trans z
  intro H hH hS
  let B := hidT s.heap H
  have keep : ∀ b o, s.heap.get? b = some o → H b = none → B.get? b = some o := fun b o e n => hidT_get e n
  have nsB : ∀ {b : Addr} {m : Str → Option Value}, s.heap.Ns b m → B.Ns b m := fun {b m} ⟨o, es, ep, e, d, r⟩ => by
    refine ⟨o, es, ep, keep b o e ?_, d, r⟩
    cases q : H b with
    | none => rfl
    | some u =>
      obtain ⟨rfl, _, _⟩ := hH b u q
      rw [ha] at e; cases e; cases d
  have KB : K.In B := fun b o e => by
    refine keep b o (KX b o e) ?_
    cases q : H b with
    | none => rfl
    | some u =>
      obtain ⟨rfl, _, hk⟩ := hH b u q
      rw [hk] at e; cases e
  have hok : HOk P w H s.heap := fun b o e => by
    obtain ⟨rfl, rfl, _⟩ := hH b o e
    exact ⟨ha, by rw [List.length_map]; exact l63, vs, _, vals_ints hi, ha⟩
  have M : Mod K mg B := ⟨KB, nsB hns, ⟨mb, nsB hb, hbb⟩, (fun ⟨mc, h1, h2⟩ => ⟨mc, nsB h1, h2⟩) hlim⟩
  have e0 : Env0 P w K mg B callerA [] s H := ⟨rfl, M, fun b o e => of_hidT e, Nat.le_of_eq (hidT_size _ _), trivial, (fun b hb => absurd (show b ∈ ([] : List Addr) from hb) (by simp)), hok, AllBare.of_eq hg⟩
  refine codeAny_mono (L B s H a ns KB (nsB hns) (hsm.imp fun _ z => nsB z) e0 hS hl) fun r s' h => ?_
  cases r with
  | error e => exact (show False from h).elim
  | ok fl =>
    cases fl with
    | next => exact (show False from h).elim
    | brk => exact (show False from h).elim
    | cont => exact (show False from h).elim
    | ret u =>
      obtain ⟨v, H', os, bare, un, hok', r', rfl⟩ := h
      obtain rfl : u = Value.bool true := r'
      refine ⟨rfl, OldK.of_keep fun b o e => ?_, os, bare⟩
      cases q : H b with
      | none => exact un.keep b o e q (fun z => nomatch (show b ∈ ([] : List Addr) from z)) (fun z => nomatch z)
      | some u =>
        obtain ⟨rfl, rfl, _⟩ := hH b u q
        have z := hok' b _ (un.frzs b _ _ q)
        rw [ha] at e; cases e
        exact z.1
end
/-- the goal that k_head leaves -/
theorem walk_here {l : PySem.W.OpenLaw} {q : Program} {loose : List Str} {XP : (Str → Option Value) → Heap → Prop} {YP : World → Heap → Prop} {d : DefRec} {K : Params → PySem.W.Frag} (hn : l.most = some 63) (hdf : d.params.defaults = []) (hin : PyProof.Rows.importsNone q = true)
    (hY : ∀ (w : World) (h : Heap), YP w h → (K w.params).In h)
    (F : ∀ (w : World) (mg : Str → Option Value) (fa : Addr) (h : Heap), (K w.params).In h → h.Ns mainGlobals mg → mg d.name = some (.ref fa) → LawAt l.prog w (K w.params) mg fa) :
    PySem.W.WalkO q loose XP YP l.row.toRowW d [] (fun f vs => PySem.call f vs) := by
  refine Att.attach_call hn hdf fun w s₀ s₁ mg mb fa o pm cd doc a vs ns G Y ho hd hcd hmg hobj hints hlen hg => ?_
  have KX := hY w _ Y
  exact law_here (F w mg fa _ KX G.T.g hmg) KX G.T.g G.T.b G.T.builtins G.T.nolimit ((G.T.seer hin).mods.imp fun _ z => z.1) hg hobj hints hlen
/-- the same over a head by facts -/
theorem walk_hereE {l : PySem.W.OpenLaw} {q : Program} {loose : List Str} {XP : (Str → Option Value) → Heap → Prop} {YP : World → Heap → Prop} {d : DefRec} (hn : l.most = some 63) (hdf : d.params.defaults = []) (hin : PyProof.Rows.importsNone q = true)
    (F : ∀ (w : World) (mg : Str → Option Value) (fa : Addr) (h : Heap), YP w h → h.Ns mainGlobals mg → mg d.name = some (.ref fa) → ∃ K : PySem.W.Frag, K.In h ∧ LawAt l.prog w K mg fa) :
    PySem.W.WalkO q loose XP YP l.row.toRowW d [] (fun f vs => PySem.call f vs) := by
  refine Att.attach_call hn hdf fun w s₀ s₁ mg mb fa o pm cd doc a vs ns G Y ho hd hcd hmg hobj hints hlen hg => ?_
  obtain ⟨K, KX, L⟩ := F w mg fa _ Y G.T.g hmg
  exact law_here L KX G.T.g G.T.b G.T.builtins G.T.nolimit ((G.T.seer hin).mods.imp fun _ z => z.1) hg hobj hints hlen
end Lw
set_option Elab.async false
set_option linter.all false
set_option maxRecDepth 100000
set_option maxHeartbeats 2000000
/-! elements of generator expressions over a text: a sign between two, one test or another. -/
namespace Gn
open PySem PySem.Spec PyProof.Rows L2 GxR
section
variable {prog : Program} {w : World} {scope : Scope} {x : Str}
theorem elt_in {lo hi : Str} {j1 j2 : Nat} {p1 p2 p3 p4 : Pos} (hk : scope.kind = .function) (hl : scope.names.lookup x = some .local) (hd : (x == ("__debug__" : Str)) = false := by decide) :
    EltP prog w scope x (.Compare (.Constant (.str lo) j1 p1) [.LtE, .LtE] [.Name x p2, .Constant (.str hi) j2 p3] p4) (fun c => !decide (([c] : List Nat) < lo.cps.toList) && !decide (hi.cps.toList < [c])) := by
  intro cenv A' E' c t s₂ m₂ hs hn hm
  refine Compare_chain (Calls.Constant_str (chain_link (wpAny_Name (wpAny_loadName_local (by rw [hs]; exact hk) (show cenv.scope.names.lookup x = some .local by rw [hs]; exact hl) hn hm ?_) hd))) (by with_unfolding_all rfl)
  refine PySem.P.le_str (wpAny_truthy_bool ?_)
  by_cases h : ([c] : List Nat) < lo.cps.toList
  · have e : (!decide ((#[c] : Array Nat).toList < lo.cps.toList)) = false := by simpa using h
    rw [e]
    refine ite_ff ⟨?_, keeps_tok _ _⟩
    simp [h]
  · have e : (!decide ((#[c] : Array Nat).toList < lo.cps.toList)) = true := by simpa using h
    rw [e]
    refine ite_tt (chain_last (Calls.Constant_str (PySem.P.le_str ⟨?_, keeps_tok _ _⟩)))
    simp [h]
theorem keeps_trans {s s1 s2 : Shared} (h1 : Keeps s s1) (h2 : Keeps s1 s2) : Keeps s s2 := by
  obtain ⟨a, b, rfl, k1⟩ := h1
  obtain ⟨c, d, rfl, k2⟩ := h2
  exact ⟨c, d, rfl, fun b o e => k2 b o (k1 b o e)⟩
theorem elt_or {e1 e2 : Expr} {p1 p2 : Nat → Bool} {pos : Pos} (h1 : EltP prog w scope x e1 p1) (h2 : EltP prog w scope x e2 p2) : EltP prog w scope x (.BoolOp .Or [e1, e2] pos) (fun c => p1 c || p2 c) := by
  intro cenv A' E' c t s₂ m₂ hs hn hm
  refine BoolOp_or (wpAny_mono (h1 cenv A' E' c t s₂ m₂ hs hn hm) (fun v s₃ hv => ?_) fun _ _ z => z)
  obtain ⟨rfl, k⟩ := hv
  refine wpAny_truthy_bool ?_
  cases q : p1 c with
  | true => exact ite_tt ⟨by simp [q], k⟩
  | false =>
    refine ite_ff ?_
    refine BoolOp_one ?_
    have k2 := k
    obtain ⟨h', tk, rfl, kk⟩ := k2
    obtain ⟨o, es, ep, ho, r⟩ := hn
    refine wpAny_mono (h2 cenv A' E' c t _ m₂ hs ⟨o, es, ep, kk _ _ ho, r⟩ hm) (fun v s4 hv => ⟨?_, keeps_trans k hv.2⟩) fun _ _ z => z
    rw [hv.1]; simp [q]
end
end Gn
set_option Elab.async false
set_option linter.all false
set_option maxRecDepth 100000
set_option maxHeartbeats 2000000
/-! The words of a text, sign by sign. -/
namespace Kc
open PySem PySem.Spec PyProof.Rows L2
def inn (c : Nat) : Bool := (decide (97 ≤ c) && decide (c ≤ 122)) || ((decide (65 ≤ c) && decide (c ≤ 90)) || ((decide (48 ≤ c) && decide (c ≤ 57)) || decide (c = 95)))
abbrev Wd : Type := List Nat × Int × Int
/-- the last word grows by a sign -/
def grow (c : Nat) : List Wd → List Wd
  | [] => []
  | [x] => [(x.1 ++ [c], x.2)]
  | x :: y :: r => x :: grow c (y :: r)
theorem grow_snoc (c : Nat) (x : Wd) : ∀ l : List Wd, grow c (l ++ [x]) = l ++ [(x.1 ++ [c], x.2)]
  | [] => rfl
  | [y] => rfl
  | y :: z :: r => by
    show y :: grow c ((z :: r) ++ [x]) = _
    rw [grow_snoc c x (z :: r)]; rfl
theorem grow_append (c : Nat) (F l : List Wd) (h : l ≠ []) : grow c (F ++ l) = F ++ grow c l := by
  obtain ⟨l', x, rfl⟩ : ∃ l' x, l = l' ++ [x] := ⟨l.dropLast, l.getLast h, (List.dropLast_concat_getLast h).symm⟩
  rw [← List.append_assoc, grow_snoc, grow_snoc, List.append_assoc]
/-- one sign more: the words so far, whether the sign ahead was of a word -/
def step (n : Int) (i : Nat) (c : Nat) (st : List Wd × Bool) : List Wd × Bool :=
  if inn c = true ∧ st.2 = true then (grow c st.1, true) else if c = 32 then (st.1, false) else (st.1 ++ [([c], n, (i : Int) + 1)], inn c)
def run (n : Int) : Nat → List Nat → List Wd × Bool → List Wd × Bool
  | _, [], st => st
  | i, c :: r, st => run n (i + 1) r (step n i c st)
theorem run_snoc (n : Int) (c : Nat) : ∀ (l : List Nat) (i : Nat) (st : List Wd × Bool), run n i (l ++ [c]) st = step n (i + l.length) c (run n i l st)
  | [], i, st => rfl
  | x :: l, i, st => by
    show run n (i + 1) (l ++ [c]) (step n i x st) = _
    rw [run_snoc n c l (i + 1) (step n i x st)]
    show step n (i + 1 + l.length) c _ = step n (i + (l.length + 1)) c _
    rw [show i + 1 + l.length = i + (l.length + 1) by omega]; rfl
/-- behind the first i signs of a line -/
def st (n : Int) (l : List Nat) (i : Nat) : List Wd × Bool := run n 0 (l.take i) ([], false)
theorem st_zero (n : Int) (l : List Nat) : st n l 0 = ([], false) := rfl
theorem st_succ (n : Int) {l : List Nat} {i c : Nat} (h : l[i]? = some c) : st n l (i + 1) = step n i c (st n l i) := by
  unfold st
  have hi : i < l.length := (List.getElem?_eq_some_iff.mp h).1
  rw [List.take_add_one, h]
  show run n 0 (l.take i ++ [c]) _ = _
  rw [run_snoc, List.length_take, Nat.min_eq_left (Nat.le_of_lt hi), Nat.zero_add]
/-- the flag: the sign ahead is one of a word; words are there then -/
theorem st_flag (n : Int) (l : List Nat) : ∀ i, i ≤ l.length → ((st n l i).2 = true → (st n l i).1 ≠ []) ∧ (st n l (i)).2 = (match i with | 0 => false | j + 1 => inn (l.getD j 0))
  | 0, _ => ⟨(fun h => nomatch h), rfl⟩
  | i + 1, hi => by
    obtain ⟨h1, h2⟩ := st_flag n l i (by omega)
    have e : l[i]? = some (l[i]'(by omega)) := List.getElem?_eq_getElem (by omega)
    have ed : l.getD i 0 = l[i]'(by omega) := by rw [List.getD_eq_getElem?_getD, e]; rfl
    rw [st_succ n e]
    show _ ∧ (step n i _ _).2 = inn (l.getD i 0)
    rw [ed]
    unfold step
    generalize l[i]'(by omega) = c
    by_cases q : inn c = true ∧ (st n l i).2 = true
    · rw [if_pos q]
      refine ⟨fun _ => ?_, q.1.symm⟩
      have := h1 q.2
      show grow c (st n l i).1 ≠ []
      obtain ⟨l', x, e2⟩ : ∃ l' x, (st n l i).1 = l' ++ [x] := ⟨_, _, (List.dropLast_concat_getLast this).symm⟩
      rw [e2, grow_snoc]; simp
    · rw [if_neg q]
      by_cases z : c = 32
      · rw [if_pos z, z]
        exact ⟨(fun h => nomatch h), rfl⟩
      · rw [if_neg z]
        exact ⟨fun _ => by simp, rfl⟩
theorem grow_len (c : Nat) : ∀ l : List Wd, (grow c l).length = l.length
  | [] => rfl
  | [x] => rfl
  | x :: y :: r => by
    show (grow c (y :: r)).length + 1 = _
    rw [grow_len c (y :: r)]; rfl
theorem st_len (n : Int) (l : List Nat) : ∀ i, i ≤ l.length → (st n l i).1.length ≤ i
  | 0, _ => Nat.le_refl _
  | i + 1, hi => by
    have h := st_len n l i (by omega)
    rw [st_succ n (List.getElem?_eq_getElem (show i < l.length by omega))]
    unfold step
    split
    · rw [grow_len]; omega
    · split
      · exact Nat.le_succ_of_le h
      · rw [List.length_append]; exact Nat.succ_le_succ h
/-- the words of a line -/
def line (n : Int) (l : List Nat) : List Wd := (st n l l.length).1
/-- a whole word at s: from a place that is no word's inside -/
theorem st_word (n : Int) {l : List Nat} {s : Nat} (hs : s < l.length) (hm : (st n l s).2 = true → inn (l.getD s 0) = false) (hc : inn (l.getD s 0) = true) : ∀ e, s < e → e ≤ l.length → (∀ k, s ≤ k → k < e → inn (l.getD k 0) = true) →
    st n l e = ((st n l s).1 ++ [((l.drop s).take (e - s), n, (s : Int) + 1)], true)
  | 0, h, _, _ => absurd h (by omega)
  | e + 1, h, he, ha => by
    have q : l[e]? = some (l[e]'(by omega)) := List.getElem?_eq_getElem (by omega)
    have qd : l.getD e 0 = l[e]'(by omega) := by rw [List.getD_eq_getElem?_getD, q]; rfl
    have ic := ha e (by omega) (by omega)
    rw [qd] at ic
    rw [st_succ n q]
    have tk : (l.drop s).take (e + 1 - s) = (l.drop s).take (e - s) ++ [l[e]'(by omega)] := by
      rw [show e + 1 - s = (e - s) + 1 by omega, List.take_add_one, List.getElem?_drop, show s + (e - s) = e by omega, q]; rfl
    by_cases z : s = e
    · subst z
      have nf : ¬ (st n l s).2 = true := fun y => by have := hm y; rw [hc] at this; cases this
      unfold step
      rw [if_neg (fun y => nf y.2), if_neg (fun y => by rw [y] at ic; cases ic), tk, ic]
      simp
    · have r := st_word n hs hm hc e (by omega) (by omega) (fun k h1 h2 => ha k h1 (by omega))
      rw [r]
      unfold step
      rw [if_pos ⟨ic, rfl⟩, tk]
      show (grow _ ((st n l s).1 ++ [_]), true) = _
      rw [grow_snoc]
/-- ahead of a line's words there are those of other lines -/
theorem run_pre (n : Int) (F : List Wd) : ∀ (l : List Nat) (i : Nat) (s : List Wd × Bool), (s.2 = true → s.1 ≠ []) → run n i l (F ++ s.1, s.2) = (F ++ (run n i l s).1, (run n i l s).2)
  | [], i, s, h => rfl
  | c :: l, i, s, h => by
    show run n (i + 1) l (step n i c (F ++ s.1, s.2)) = _
    have e : step n i c (F ++ s.1, s.2) = (F ++ (step n i c s).1, (step n i c s).2) := by
      unfold step
      by_cases q : inn c = true ∧ s.2 = true
      · rw [if_pos q, if_pos q]
        show (grow c (F ++ s.1), true) = _
        rw [grow_append c F s.1 (h q.2)]
      · rw [if_neg q, if_neg q]
        by_cases z : c = 32
        · rw [if_pos z, if_pos z]
        · rw [if_neg z, if_neg z, List.append_assoc]
    rw [e]
    refine run_pre n F l (i + 1) (step n i c s) ?_
    unfold step
    by_cases q : inn c = true ∧ s.2 = true
    · rw [if_pos q]
      intro _
      obtain ⟨l', x, e2⟩ : ∃ l' x, s.1 = l' ++ [x] := ⟨_, _, (List.dropLast_concat_getLast (h q.2)).symm⟩
      show grow c s.1 ≠ []
      rw [e2, grow_snoc]; simp
    · rw [if_neg q]
      by_cases z : c = 32
      · rw [if_pos z]
        exact fun y => nomatch y
      · rw [if_neg z]
        intro _; simp
end Kc
set_option Elab.async false
set_option linter.all false
set_option maxRecDepth 100000
set_option maxHeartbeats 2000000
/-! is_joined, words_of_line. -/
namespace Kp
open PySem PySem.Spec PyProof.Rows L2 Sx Rp Dw NdefX Kc
abbrev sJoined : Stmt := topS 7
abbrev sLine : Stmt := topS 9
theorem scJo : FnScope ["sign"] ["sign"] (defScope sJoined) := ⟨rfl, rfl, rfl, by decide +kernel, rfl, by decide +kernel, by decide +kernel⟩
theorem scLi : FnScope ["line", "number", "found", "start", "end"] ["line", "number"] (defScope sLine) := ⟨rfl, rfl, rfl, by decide +kernel, rfl, by decide +kernel, by decide +kernel⟩
def ch (c : Nat) : Str := ⟨#[c]⟩
theorem inn_eq : ∀ c, c < 127 → ((decide (V.str ⟨#[c]⟩ = V.str "_")) || Txt.isalnum ⟨#[c]⟩) = inn c := by decide +kernel
def spJoined : Sp := fun vs H Q _ => ∃ c : Nat, vs = [.str ⟨#[c]⟩] ∧ c < 127 ∧ Q (.bl (inn c)) H
section
variable {P : Program} {w : World} {K : PySem.W.Frag} {mg : Str → Option Value} {base : Heap}
theorem ok_joined {f : Addr} {fd : FuncData} (F : Fun K "is_joined" "is_joined" sJoined f fd) : FnOk P w K mg base CX0 1 f fd ["sign"] spJoined := by
  refine F.ok scJo (fun vs H Q E h => ?_) (fun cdv A outer s H vs Q E hr h => ?_)
  · obtain ⟨c, rfl, _⟩ := h
    rfl
  · obtain ⟨c, rfl, hc, k⟩ := h
    refine ⟨_, pss_one (ps_ret (pe_or (pe_cmpR op_eq (pv 0) pe_str (nomark _)) (pe_one (pe_m0 PySem.F.slot_str_isalnum PySem.F.type_str_isalnum mt_isalnum (pv 0))))), ?_⟩
    have e := inn_eq c hc
    refine ⟨_, rfl, rfl, _, rfl, ?_⟩
    cases q : decide (V.str ⟨#[c]⟩ = V.str "_") with
    | true =>
      rw [q] at e
      rw [if_pos rfl]
      rw [Bool.true_or] at e
      rw [e]; exact k
    | false =>
      rw [q, Bool.false_or] at e
      rw [if_neg (by decide)]
      refine ⟨_, rfl, ⟨_, rfl⟩, _, rfl, rfl, True.intro, ?_⟩
      show Q (.bl (Txt.isalnum ⟨#[c]⟩)) H
      rw [e]; exact k
def dW (x : Wd) : PyData := .tuple [.str ⟨x.1.toArray⟩, .int x.2.1, .int x.2.2]
/-- what is new in G, but for p -/
def nw (H G : Hp) (p : Addr) : Hp := fun b => if H b = none ∧ b ≠ p then G b else none
theorem nw_iff {H G : Hp} {p b : Addr} {o : HO} : nw H G p b = some o ↔ (H b = none ∧ b ≠ p) ∧ G b = some o := by
  unfold nw
  by_cases h : H b = none ∧ b ≠ p
  · rw [if_pos h]; exact ⟨fun e => ⟨h, e⟩, fun e => e.2⟩
  · rw [if_neg h]; exact ⟨(fun e => nomatch e), fun e => absurd e.1 h⟩
/-- the words told so far, in the list at p; H: what stood before -/
structure Tw (H G : Hp) (p : Addr) (ws : List Wd) : Prop where
  ex : ∃ xs, G p = some (.lst xs) ∧ DtAll (nw H G p) xs (ws.map dW) ∧ xs.length = ws.length
  sm : ∀ b o, H b = some o → del G p b = some o
  np : H p = none
def spLine : Sp := fun vs H Q _ => ∃ (z : List Nat) (n : Int), vs = [.str ⟨z.toArray⟩, .int n] ∧ (∀ c ∈ z, c < 127) ∧ z.length ≤ 100000 ∧ ∀ (p : Addr) (G : Hp), Tw H G p (line n z) → Q (.ref p) G
theorem ne_blank {c : Nat} (q : ¬ c = 32) : ¬ V.str ⟨#[c]⟩ = V.str (" " : Str) := fun h => by
  have e := congrArg Str.cps (V.str.inj h)
  have e2 : (Str.ofString " ").cps = #[32] := by decide +kernel
  rw [e2] at e
  exact q (by simpa using e)
def tTail (K : PySem.W.Frag) : TS := tSeq (tIfS (tTest (tOp rNe (tOp rIxS (tVar 0) (tVar 3)) (tC (V.str (" " : Str))))) (tDrop (tBM K "list" rAppend (tVar 2) (tCons (tTup (tCons (tSl rSlS (tVar 0) (tPart (tVar 3)) (tPart (tVar 4))) (tCons (tVar 1) (tCons (tOp (rI0 fun i j => V.int (i + j)) (tVar 3) (tC (V.int 1))) tNil)))) tNil))) tNext) (tAsg (tVar 4) (gName 3))
theorem len_arr (z : List Nat) : (⟨z.toArray⟩ : Str).length = z.length := by show z.toArray.size = _; simp
theorem cut_nat (z : List Nat) {i e : Nat} (h1 : i ≤ e) (h2 : e ≤ z.length) : cutS ⟨z.toArray⟩ (some (i : Int)) (some (e : Int)) = ⟨((z.drop i).take (e - i)).toArray⟩ := by
  unfold cutS
  rw [len_arr, HT.sIx_nat, HT.sIx_nat, Nat.min_eq_left h2, Nat.min_eq_left (by omega)]
theorem dt_snoc {H : Hp} {v : V} {d : PyData} : ∀ {xs : List V} {ds : List PyData}, DtAll H xs ds → Dt H v d → DtAll H (xs ++ [v]) (ds ++ [d])
  | _, _, .nil, h => .cons h .nil
  | _, _, .cons a b, h => .cons a (dt_snoc b h)
theorem del_updP {G : Hp} {p : Addr} {o : HO} : del (upd G p o) p = del G p := funext fun b => by
  by_cases h : b = p
  · rw [h, del_same, del_same]
  · rw [del_ne h, del_ne h, upd_ne h]
theorem tail_run {H G : Hp} {p : Addr} {z : List Nat} {n : Int} {i e c : Nat} {D : Ends} (hc : z[i]? = some c) (hl : z.length ≤ 100000) (h1 : i < e) (h2 : e ≤ z.length) (T : Tw H G p (st n z i).1) (wl : (st n z i).1.length ≤ 100000)
    (w1 : c ≠ 32 → (st n z e).1 = (st n z i).1 ++ [((z.drop i).take (e - i), n, (i : Int) + 1)]) (w2 : c = 32 → (st n z e).1 = (st n z i).1)
    (nx : ∀ G', Tw H G' p (st n z e).1 → D.nx [some (.str ⟨z.toArray⟩), some (.int n), some (.ref p), some (.int (e : Int)), some (.int (e : Int))] G') :
    tTail K D [some (.str ⟨z.toArray⟩), some (.int n), some (.ref p), some (.int (i : Int)), some (.int (e : Int))] G := by
  have lz : (⟨z.toArray⟩ : Str).length ≤ sizeLine := by rw [len_arr]; exact Nat.le_trans hl (by decide)
  refine ⟨_, rfl, _, rfl, ⟨z.toArray⟩, i, c, rfl, rfl, lz, atI_nat hc, rfl, _, rfl, ?_⟩
  by_cases q : c = 32
  · refine iteF' (by subst q; decide) ⟨_, rfl, ?_⟩
    rw [← w2 q] at T
    exact nx _ T
  · refine iteT' (by rw [decide_eq_false (ne_blank q)]; rfl) ?_
    obtain ⟨xs, hp, dt, le⟩ := T.ex
    refine ⟨_, rfl, Or.inl ⟨rfl, _, Or.inl (Or.inl hp)⟩, _, rfl, _, rfl, i, rfl, _, rfl, e, rfl, ⟨z.toArray⟩, rfl, lz, _, rfl, _, rfl, i, 1, rfl, rfl, (show 3 ≤ sizeLine by decide), fun t nt => ?_⟩
    have tp : t ≠ p := fun y => by rw [y, hp] at nt; cases nt
    refine ⟨p, xs, .ref t, rfl, rfl, (upd_ne (Ne.symm tp)).trans hp, by rw [le]; exact Nat.lt_of_le_of_lt wl (by decide), _, rfl, nx _ ?_⟩
    rw [w1 q, cut_nat z (by omega) h2]
    have ht : H t = none := by
      cases y : H t with
      | none => rfl
      | some o =>
        have y2 := T.sm _ _ y
        rw [del_ne tp, nt] at y2
        cases y2
    have up : ∀ {b : Addr} {o o2 : HO} {w2 : HO}, b ≠ p → G b = some o → upd (upd G t o2) p w2 b = some o := fun {b o o2 w2} bp y => by
      rw [upd_ne bp, upd_ne (fun y2 => by rw [y2, nt] at y; cases y)]
      exact y
    refine ⟨⟨_, upd_same, ?_, by rw [List.length_append, List.length_append, le]; rfl⟩, fun b o y => ?_, T.np⟩
    · rw [List.map_append]
      refine dt_snoc (dt.same fun b o y => ?_) (.tup (xs := [.str ⟨((z.drop i).take (e - i)).toArray⟩, .int n, .int ((i : Int) + 1)]) ?_ (.cons (.str _) (.cons (.int _) (.cons (.int _) .nil))))
      · obtain ⟨y1, y2⟩ := nw_iff.mp y
        exact nw_iff.mpr ⟨y1, up y1.2 y2⟩
      · exact nw_iff.mpr ⟨⟨ht, tp⟩, by rw [upd_ne tp, upd_same]⟩
    · have y2 := T.sm b o y
      by_cases bp : b = p
      · rw [bp, del_same] at y2; cases y2
      · rw [del_ne bp] at y2 ⊢
        exact up bp y2
theorem ok_line {f g : Addr} {fd gd : FuncData} (F : Fun K "words_of_line" "words_of_line" sLine f fd) (ml : mg "len" = none)
    (G : FnOk P w K mg base CX0 1 g gd ["sign"] spJoined) (mgf : mg "is_joined" = some (.ref g)) (kp : PySem.W.keepIn K (.ref g) = true) (b : Binds K gd ["sign"] []) : FnOk P w K mg base CX0 2 f fd ["line", "number"] spLine := by
  refine F.ok scLi (fun vs H Q E h => ?_) (fun cdv A outer s H vs Q E hr h => ?_)
  · obtain ⟨z, n, rfl, _⟩ := h
    rfl
  · obtain ⟨z, n, rfl, hz, hl, k⟩ := h
    refine ⟨_, (pss_cons (ps_set (i := 2) scLi.nd rfl (Or.inl rfl) (pe_lst pa_nil))
      (pss_cons (ps_set (i := 3) scLi.nd rfl (Or.inl rfl) pe_int)
      (pss_cons (ps_while PassesOwn.never (pt_cmpR op_lt (pv 3) (pe_callB call_len_str (by rfl) ml PySem.boot_len (pa_cons (pv 0) pa_nil)) (nomark _))
        (pss_cons (ps_set (i := 4) scLi.nd rfl (Or.inl rfl) (pe_op op_add (pv 3) pe_int))
        (pss_cons (ps_if (pt_val (pe_call G hr rfl mgf kp b .nil pass0 (pa_cons (pe_ix ix_str (pv 0) (pv 3) (fun _ _ => rfl)) pa_nil)))
          (pss_one (ps_while PassesOwn.never (PW.pt (pw_and (pt_cmpR op_lt (pv 4) (pe_callB call_len_str (by rfl) ml PySem.boot_len (pa_cons (pv 0) pa_nil)) (nomark _)) (pw_and1 (pt_val (pe_call G hr rfl mgf kp b .nil pass0 (pa_cons (pe_ix ix_str (pv 0) (pv 4) (fun _ _ => rfl)) pa_nil))))))
            (pss_one (ps_aug scLi.nd (i := 4) rfl (Or.inl rfl) pe_int ip_add)))) pss_nil)
        (pss_cons (ps_if (pt_cmpR op_ne (pe_ix ix_str (pv 0) (pv 3) (fun _ _ => rfl)) pe_str (nomark _))
          (pss_one (ps_expr (pe_bm PySem.F.plainAttrs_list PySem.F.slot_list_append PySem.F.type_list_append mt_append (pv 2) (pa_cons (pe_tup (pa_cons (pe_slice sl_str (pv 0) (po_some (pv 3)) (po_some (pv 4))) (pa_cons (pv 1) (pa_cons (pe_op op_add (pv 3) pe_int) pa_nil)))) pa_nil)))) pss_nil)
        (pss_one (ps_set (i := 3) scLi.nd rfl (Or.inl rfl) (pv 4)))))))
      (pss_one (ps_ret (pv 2)))))), ?_⟩
    have lz : (⟨z.toArray⟩ : Str).length ≤ sizeLine := by rw [len_arr]; exact Nat.le_trans hl (by decide)
    refine ⟨by decide, fun p np => ⟨fun m σ G => ∃ (i : Nat) (en : Option V), σ = [some (.str ⟨z.toArray⟩), some (.int n), some (.ref p), some (.int (i : Int)), en] ∧ i ≤ z.length ∧ m = z.length - i ∧ ((st n z i).2 = true → inn (z.getD i 0) = false) ∧ Tw H G p (st n z i).1,
      ⟨z.length, 0, none, rfl, Nat.zero_le _, rfl, (fun y => nomatch y), ⟨[], upd_same, .nil, rfl⟩, fun b o y => ?_, np⟩, fun m σ G w => ?_⟩⟩
    · rw [del_updP]
      by_cases bp : b = p
      · rw [bp, np] at y; cases y
      · rw [del_ne bp]; exact y
    obtain ⟨i, en, rfl, hi, rfl, hm, T⟩ := w
    refine ⟨_, rfl, _, rfl, ⟨z.toArray⟩, rfl, lz, _, _, rfl, rfl, _, rfl, ?_⟩
    rw [len_arr]
    by_cases lt : i < z.length
    · refine iteT' (decide_eq_true (by omega)) ⟨fun σ' H' => ∃ m', m' < z.length - i ∧ ∃ (i : Nat) (en : Option V), σ' = [some (.str ⟨z.toArray⟩), some (.int n), some (.ref p), some (.int (i : Int)), en] ∧ i ≤ z.length ∧ m' = z.length - i ∧ ((st n z i).2 = true → inn (z.getD i 0) = false) ∧ Tw H H' p (st n z i).1, fun _ _ y => y, ?_⟩
      have q : z[i]? = some (z[i]'lt) := List.getElem?_eq_getElem lt
      have qd : z.getD i 0 = z[i]'lt := by rw [List.getD_eq_getElem?_getD, q]; rfl
      have hc : z[i]'lt < 127 := hz _ (List.getElem_mem lt)
      generalize hcc : z[i]'lt = c at q qd hc
      have wl : (st n z i).1.length ≤ 100000 := Nat.le_trans (st_len n z i hi) (by omega)
      refine ⟨_, rfl, _, _, rfl, rfl, ?_⟩
      refine ⟨_, rfl, _, rfl, ⟨z.toArray⟩, i, c, rfl, rfl, lz, atI_nat q, c, rfl, hc, _, rfl, ?_⟩
      by_cases ic : inn c = true
      · refine iteT' ic ?_
        have fin : ∀ (rt0 : V → Hp → Prop) (bk0 ct0 : L2.St → Hp → Prop) (e : Nat), i < e → e ≤ z.length → (∀ k, i ≤ k → k < e → inn (z.getD k 0) = true) → inn (z.getD e 0) = false → tTail K (⟨fun σ' H' => ∃ m', m' < z.length - i ∧ ∃ (i : Nat) (en : Option V), σ' = [some (.str ⟨z.toArray⟩), some (.int n), some (.ref p), some (.int (i : Int)), en] ∧ i ≤ z.length ∧ m' = z.length - i ∧ ((st n z i).2 = true → inn (z.getD i 0) = false) ∧ Tw H H' p (st n z i).1, rt0, bk0, ct0⟩ : Ends) [some (.str ⟨z.toArray⟩), some (.int n), some (.ref p), some (.int (i : Int)), some (.int (e : Int))] G := fun rt0 bk0 ct0 e h1 h2 ha hb => by
          have w1 := st_word n lt hm (by rw [qd]; exact ic) e h1 h2 ha
          exact tail_run q hl h1 h2 T wl (fun _ => by rw [w1]) (fun y => by rw [y] at ic; cases ic) (fun G' T' => ⟨z.length - e, by omega, e, _, rfl, h2, rfl, fun _ => hb, T'⟩)
        refine ⟨fun m σ G' => ∃ e : Nat, σ = [some (.str ⟨z.toArray⟩), some (.int n), some (.ref p), some (.int (i : Int)), some (.int (e : Int))] ∧ G' = G ∧ i < e ∧ e ≤ z.length ∧ m = z.length - e ∧ ∀ k, i ≤ k → k < e → inn (z.getD k 0) = true, ⟨_, i + 1, rfl, rfl, by omega, lt, rfl, fun k h1 h2 => by rw [show k = i by omega, qd]; exact ic⟩, fun m σ G' w => ?_⟩
        obtain ⟨e, rfl, rfl, h1, h2, rfl, ha⟩ := w
        refine ⟨_, rfl, _, rfl, ⟨z.toArray⟩, rfl, lz, _, _, rfl, rfl, _, rfl, ?_⟩
        rw [len_arr]
        by_cases l2 : e < z.length
        · have q2 : z[e]? = some (z[e]'l2) := List.getElem?_eq_getElem l2
          have qd2 : z.getD e 0 = z[e]'l2 := by rw [List.getD_eq_getElem?_getD, q2]; rfl
          have hc2 : z[e]'l2 < 127 := hz _ (List.getElem_mem l2)
          generalize z[e]'l2 = c2 at q2 qd2 hc2
          refine iteT' (decide_eq_true (by omega)) ⟨_, rfl, _, rfl, ⟨z.toArray⟩, e, c2, rfl, rfl, lz, atI_nat q2, c2, rfl, hc2, _, rfl, ?_⟩
          by_cases ic2 : inn c2 = true
          · refine iteT' ic2 ⟨fun σ' H' => ∃ m', m' < z.length - e ∧ ∃ e : Nat, σ' = [some (.str ⟨z.toArray⟩), some (.int n), some (.ref p), some (.int (i : Int)), some (.int (e : Int))] ∧ H' = G' ∧ i < e ∧ e ≤ z.length ∧ m' = z.length - e ∧ ∀ k, i ≤ k → k < e → inn (z.getD k 0) = true, fun _ _ y => y, ?_⟩
            refine ⟨_, rfl, _, _, rfl, rfl, z.length - (e + 1), by omega, e + 1, rfl, rfl, by omega, l2, rfl, fun k y1 y2 => ?_⟩
            by_cases ke : k = e
            · rw [ke, qd2]; exact ic2
            · exact ha k y1 (by omega)
          · exact iteF' (by simpa using ic2) (fin _ _ _ e h1 h2 ha (by rw [qd2]; simpa using ic2))
        · refine iteF' (decide_eq_false (by omega)) (iteF' rfl (fin _ _ _ e h1 h2 ha ?_))
          rw [List.getD_eq_getElem?_getD, List.getElem?_eq_none (by omega)]; rfl
      · refine iteF' (by simpa using ic) ?_
        have nf : ¬ (inn c = true ∧ (st n z i).2 = true) := fun y => ic y.1
        have ss := st_succ n q
        unfold Kc.step at ss
        rw [if_neg nf] at ss
        refine tail_run (K := K) (D := ⟨fun σ' H' => ∃ m', m' < z.length - i ∧ ∃ (i : Nat) (en : Option V), σ' = [some (.str ⟨z.toArray⟩), some (.int n), some (.ref p), some (.int (i : Int)), en] ∧ i ≤ z.length ∧ m' = z.length - i ∧ ((st n z i).2 = true → inn (z.getD i 0) = false) ∧ Tw H H' p (st n z i).1, Q, _, _⟩) (e := i + 1) q hl (by omega) lt T wl (fun y => ?_) (fun y => ?_) (fun G' T' => ⟨z.length - (i + 1), by omega, i + 1, _, rfl, lt, rfl, fun y => ?_, T'⟩)
        · rw [ss, if_neg y, show i + 1 - i = 1 by omega, List.take_one, List.head?_drop, q]; rfl
        · rw [ss, if_pos y]
        · rw [ss] at y
          by_cases z32 : c = 32
          · rw [if_pos z32] at y; cases y
          · rw [if_neg z32] at y
            exact absurd y ic
    · have e : i = z.length := by omega
      subst e
      exact iteF' (decide_eq_false (by omega)) ⟨_, rfl, k p G T⟩
end
end Kp
set_option Elab.async false
set_option linter.all false
set_option maxRecDepth 100000
set_option maxHeartbeats 2000000
/-! is_text, is_name: a generator expression over a text, its code's table tracked. -/
namespace Kt
open PySem PySem.Spec PyProof.Rows L2 Sx Rp Dw NdefX Kc Gn GxR Kp
/-- a def whose code object stands at c -/
structure FunT (K : PySem.W.Frag) (x qual : Str) (st : Stmt) (f c : Addr) (fd : FuncData) : Prop where
  ex : ∃ (oc : Value) (od : Option Addr) (kw dc md : Value) (an : Option Addr) (ct : Value) (sl : Array (Option Value)),
    fd = PySem.W.fnOf x qual (defArgs st) (defBody st) (defScope st) .none kw dc md an (.ref c) ct ∧ K.lookup f = some ⟨oc, od, .func fd, sl⟩ ∧ PySem.W.codeIn K (.ref c) qual = true
  kp : PySem.W.keepIn K (.ref f) = true
abbrev sIsText : Stmt := topS 6
abbrev sIsName : Stmt := topS 5
theorem scTx : FnScope ["thing"] ["thing"] (defScope sIsText) := ⟨rfl, rfl, rfl, by decide +kernel, rfl, by decide +kernel, by decide +kernel⟩
theorem scNm : FnScope ["thing"] ["thing"] (defScope sIsName) := ⟨rfl, rfl, rfl, by decide +kernel, rfl, by decide +kernel, by decide +kernel⟩
/-- a sign of a text -/
def sgn (c : Nat) : Bool := ([c] == (Str.ofString "\n").cps.toList) || (!decide (([c] : List Nat) < (Str.ofString " ").cps.toList) && !decide ((Str.ofString "~").cps.toList < [c]))
section
variable {P : Program} {w : World} {K : PySem.W.Frag} {mg : Str → Option Value} {base : Heap}
theorem FunT.ok {x qual : Str} {st : Stmt} {f c : Addr} {fd : FuncData} {N ps : List Str} {k : Nat} {sp : Sp} (F : FunT K x qual st f c fd) (S : FnScope N ps (defScope st)) (len : ∀ vs H Q E, sp vs H Q E → vs.length = ps.length)
    (body : ∀ (A : Around) (outer : List Env) (s : Shared) (H : Hp) (vs : List V) (Q : VK) (E : XK), Room k (A.deeper (envOfC qual (defScope st) s.heap.objs.size f (.ref c))) → sp vs H Q E → ∃ t, PSs (cxOf CX0 P w K mg base N qual (defScope st) f (.ref c) A outer s H E).nox (defBody st) t ∧ t { nx := fun _ H' => Q .non H', rt := Q } (start N vs) H) :
    FnOk P w K mg base CX0 (k + 1) f fd ps sp := by
  obtain ⟨oc, od, kw, dc, md, an, ct, sl, rfl, lk, hc⟩ := F.ex
  exact fn_of lk hc S len fun A outer s H vs Q E r h => let ⟨t, h1, h2⟩ := body A outer s H vs Q E r h; ⟨t, h1.nox, h2⟩
/-- no text -/
def NoStr (K : PySem.W.Frag) (H : Hp) (v : V) : Prop := ∃ t, TyX K H v t ∧ PySem.W.kitOne K t (.type "str") = some false
def spText (K : PySem.W.Frag) (T : Addr) : Sp := fun vs H Q _ => ∃ v, vs = [v] ∧ ((NoStr K H v ∧ Q (.bl false) H) ∨ ∃ z : List Nat, v = .str ⟨z.toArray⟩ ∧ TabG H T ∧ ∀ H2, Tabbed T H H2 → Q (.bl (z.all sgn)) H2)
theorem ok_text {f c T : Addr} {fd : FuncData} (F : FunT K "is_text" "is_text" sIsText f c fd) (mi : mg "isinstance" = none) (mst : mg "str" = none) (mal : mg "all" = none) (TB : TabB base mg c T) : FnOk P w K mg base CX0 2 f fd ["thing"] (spText K T) := by
  refine F.ok scTx (fun vs H Q E h => ?_) (fun A outer s H vs Q E hr h => ?_)
  · obtain ⟨v, rfl, _⟩ := h
    rfl
  · obtain ⟨v, rfl, h⟩ := h
    refine ⟨_, pss_one (ps_ret (pe_and (pe_callB call_isi (by rfl) mi (by decide +kernel) (pa_cons (pv 0) (pa_cons (pe_bltn (v := .ty "str") (by rfl) mst (by decide +kernel) rfl) pa_nil)))
      (pe_one (pe_allS hr (by rfl) mal (by decide +kernel) TB rfl ⟨rfl, rfl, by decide +kernel, rfl, rfl, fun y hy hf => by simp at hy; rcases hy with rfl | rfl <;> cases hf⟩ (pv 0) (elt_or (elt_eq rfl rfl) (elt_in rfl rfl)) (fun _ => rfl))))), ?_⟩
    rcases h with ⟨⟨t, ty, e⟩, q⟩ | ⟨z, rfl, tg, q⟩
    · exact ⟨_, rfl, v, .ty "str", t, .type "str", false, rfl, .ty "str", ty, e, false, rfl, iteF' rfl q⟩
    · refine ⟨_, rfl, _, .ty "str", .type "str", .type "str", true, rfl, .ty "str", .base (.str _), (by rfl), true, rfl, iteT' rfl ⟨_, rfl, _, rfl, tg, fun H2 h2 => ?_⟩⟩
      have e := q H2 h2
      simp only [List.toList_toArray] at e ⊢
      exact e
/-- the kept words -/
def keptS : List Str := (["answer", "ask", "call", "clause", "copy", "document", "draw", "false", "give", "house", "inner", "law", "never", "node", "outer", "program", "state", "true", "wait"] : List String).map Str.ofString
def keptV : List V := keptS.map V.str
def low (c : Nat) : Bool := !decide (([c] : List Nat) < (Str.ofString "a").cps.toList) && !decide ((Str.ofString "z").cps.toList < [c])
def isName (z : List Nat) : Bool := (decide (1 ≤ z.length) && decide (z.length ≤ 8)) && (z.all low && !inV (.str ⟨z.toArray⟩) keptV)
def spName (K : PySem.W.Frag) (T : Addr) : Sp := fun vs H Q _ => ∃ v, vs = [v] ∧ ((NoStr K H v ∧ Q (.bl false) H) ∨ ∃ z : List Nat, v = .str ⟨z.toArray⟩ ∧ z.length ≤ 100000 ∧ TabG H T ∧ ∀ H2, Tabbed T H H2 → Q (.bl (isName z)) H2)
theorem ok_name {f c T kp : Addr} {fd : FuncData} {od : Option Addr} {us : Array Value} {un : Nat} {ks : Array (Option Value)} (F : FunT K "is_name" "is_name" sIsName f c fd) (mi : mg "isinstance" = none) (mst : mg "str" = none) (mal : mg "all" = none) (ml : mg "len" = none) (TB : TabB base mg c T)
    (mk : mg "KEPT" = some (.ref kp)) (kt : ∀ H, SqT K H kp keptV) : FnOk P w K mg base CX0 2 f fd ["thing"] (spName K T) := by
  refine F.ok scNm (fun vs H Q E h => ?_) (fun A outer s H vs Q E hr h => ?_)
  · obtain ⟨v, rfl, _⟩ := h
    rfl
  · obtain ⟨v, rfl, h⟩ := h
    refine ⟨_, pss_cons (ps_if (PW.pt (pw_or (pt_not (pt_val (pe_callB call_isi (by rfl) mi (by decide +kernel) (pa_cons (pv 0) (pa_cons (pe_bltn (v := .ty "str") (by rfl) mst (by decide +kernel) rfl) pa_nil))))) (pw_or1 (pt_not (pt_chain op_le op_le pe_int (pe_callB call_len_str (by rfl) ml PySem.boot_len (pa_cons (pv 0) pa_nil)) pe_int))))) (pss_one (ps_ret pe_bl)) pss_nil)
      (pss_one (ps_ret (pe_and (pe_allS hr (by rfl) mal (by decide +kernel) TB rfl ⟨rfl, rfl, by decide +kernel, rfl, rfl, fun y hy hf => by simp at hy; rcases hy with rfl | rfl <;> cases hf⟩ (pv 0) (elt_in rfl rfl) (fun _ => rfl))
        (pe_one (pe_cmpR op_notIn_seq (pv 0) (pe_glob (v := .ref kp) (by rfl) mk rfl) (by rfl)))))), ?_⟩
    rcases h with ⟨⟨t, ty, e⟩, q⟩ | ⟨z, rfl, hl, tg, q⟩
    · exact ⟨_, rfl, v, .ty "str", t, .type "str", false, rfl, .ty "str", ty, e, false, rfl, iteT' rfl (iteT' rfl q)⟩
    · refine ⟨_, rfl, _, .ty "str", .type "str", .type "str", true, rfl, .ty "str", .base (.str _), (by rfl), true, rfl, iteF' rfl ?_⟩
      have lz : (⟨z.toArray⟩ : Str).length ≤ sizeLine := by rw [len_arr]; exact Nat.le_trans hl (by decide)
      have th : Tabbed T H H := ⟨tg, fun _ _ => rfl⟩
      refine ⟨_, rfl, ⟨z.toArray⟩, rfl, lz, _, _, rfl, rfl, _, rfl, ?_⟩
      rw [len_arr]
      by_cases h1 : 1 ≤ z.length
      · refine iteT' (decide_eq_true (by omega)) ⟨_, _, rfl, rfl, _, rfl, ?_⟩
        by_cases h8 : z.length ≤ 8
        · have e8 : decide ((z.length : Int) ≤ 8) = true := decide_eq_true (by omega)
          rw [e8]
          refine iteF' rfl ⟨_, rfl, _, rfl, tg, fun H2 h2 => ⟨_, rfl, ?_⟩⟩
          have q2 := q H2 h2
          unfold isName at q2
          rw [decide_eq_true h1, decide_eq_true h8] at q2
          simp only [Bool.true_and] at q2
          have el : (z.toArray.toList.all fun c => !decide (([c] : List Nat) < (Str.ofString "a").cps.toList) && !decide ((Str.ofString "z").cps.toList < [c])) = z.all low := by rw [List.toList_toArray]; rfl
          show if (z.toArray.toList.all _) = true then _ else _
          rw [el]
          cases ea : z.all low with
          | false =>
            rw [ea] at q2
            exact iteF' rfl q2
          | true =>
            rw [ea] at q2
            exact iteT' rfl ⟨_, rfl, kp, keptV, rfl, .inr (kt _), rfl, by decide +kernel, q2⟩
        · have e8 : decide ((z.length : Int) ≤ 8) = false := decide_eq_false (by omega)
          rw [e8]
          refine iteT' rfl ?_
          have q2 := q H th
          unfold isName at q2
          rw [decide_eq_false h8, Bool.and_false, Bool.false_and] at q2
          exact q2
      · have e1 : decide ((1 : Int) ≤ (z.length : Int)) = false := decide_eq_false (by omega)
        refine iteF' e1 ⟨_, rfl, iteT' rfl ?_⟩
        have q2 := q H th
        unfold isName at q2
        rw [decide_eq_false h1, Bool.false_and, Bool.false_and] at q2
        exact q2
end
end Kt
set_option Elab.async false
set_option linter.all false
set_option maxRecDepth 100000
set_option maxHeartbeats 2000000
/-! words_of. -/
namespace Kw
open PySem PySem.Spec PyProof.Rows L2 Sx Rp Dw NdefX Kc Gn GxR Kp Kt
/-! ### the lines of a text -/
def lines (z : List Nat) : List (List Nat) := TL.spl [10] 0 [] z
theorem spl_parts : ∀ (l acc : List Nat), (∀ p ∈ TL.spl [10] 0 acc l, p.length ≤ acc.length + l.length ∧ ∀ c ∈ p, c ∈ acc ∨ c ∈ l) ∧ (TL.spl [10] 0 acc l).length ≤ l.length + 1
  | [], acc => by
    rw [TL.spl_nil]
    exact ⟨fun p hp => by simp at hp; subst hp; exact ⟨by simp, fun c hc => .inl hc⟩, by simp⟩
  | c :: r, acc => by
    cases h : TL.pre [10] (c :: r) with
    | true =>
      rw [TL.spl_hit h]
      obtain ⟨h1, h2⟩ := spl_parts r []
      refine ⟨fun p hp => ?_, Nat.succ_le_succ h2⟩
      rcases List.mem_cons.mp hp with rfl | hp
      · exact ⟨Nat.le_add_right _ _, fun c hc => .inl hc⟩
      · obtain ⟨a, b⟩ := h1 p hp
        refine ⟨by simp at a ⊢; omega, fun d hd => ?_⟩
        rcases b d hd with x | x
        · cases x
        · exact .inr (List.mem_cons_of_mem _ x)
    | false =>
      rw [TL.spl_miss h]
      obtain ⟨h1, h2⟩ := spl_parts r (acc ++ [c])
      refine ⟨fun p hp => ?_, by simp at h2 ⊢; omega⟩
      obtain ⟨a, b⟩ := h1 p hp
      refine ⟨by simp at a ⊢; omega, fun d hd => ?_⟩
      rcases b d hd with x | x
      · rcases List.mem_append.mp x with y | y
        · exact .inl y
        · rw [List.mem_singleton.mp y]; exact .inr List.mem_cons_self
      · exact .inr (List.mem_cons_of_mem _ x)
theorem lines_ok {z p : List Nat} (h : p ∈ lines z) : p.length ≤ z.length ∧ ∀ c ∈ p, c ∈ z := by
  obtain ⟨a, b⟩ := (spl_parts z []).1 p h
  refine ⟨by simpa using a, fun c hc => ?_⟩
  rcases b c hc with x | x
  · cases x
  · exact x
theorem lines_len (z : List Nat) : (lines z).length ≤ z.length + 1 := (spl_parts z []).2
theorem split_lines (z : List Nat) : Txt.split ⟨z.toArray⟩ "\n" = (lines z).map fun l => (⟨l.toArray⟩ : Str) := by
  have e : ("\n" : Str) = (⟨([10] : List Nat).toArray⟩ : Str) := by decide +kernel
  rw [e]
  exact SX.split_S (a := z) (b := [10]) (by decide) (by decide)
/-- the words of lines, the first one being of that number -/
def wo : Int → List (List Nat) → List Wd
  | _, [] => []
  | r, l :: t => line r l ++ wo (r + 1) t
theorem wo_snoc (l : List Nat) : ∀ (t : List (List Nat)) (r : Int), wo r (t ++ [l]) = wo r t ++ line (r + t.length) l
  | [], r => by simp [wo]
  | x :: t, r => by
    show line r x ++ wo (r + 1) (t ++ [l]) = _
    rw [wo_snoc l t (r + 1)]
    show _ = (line r x ++ wo (r + 1) t) ++ _
    rw [List.append_assoc, show r + 1 + (t.length : Int) = r + ((x :: t).length : Int) by simp; omega]
def words (z : List Nat) : List Wd := wo 1 (lines z)
theorem sgn_lt {c : Nat} (h : sgn c = true) : c < 127 := by
  by_cases q : c < 127
  · exact q
  · exfalso
    have e1 : (Str.ofString "\n").cps.toList = [10] := by decide +kernel
    have e2 : (Str.ofString "~").cps.toList = [126] := by decide +kernel
    unfold sgn at h
    rw [e1, e2] at h
    have l1 : ([c] == [10]) = false := by
      rw [beq_eq_false_iff_ne]; intro z; injection z with z; omega
    have l2 : decide (([126] : List Nat) < [c]) = true := decide_eq_true (List.Lex.rel (by omega))
    rw [l1, l2] at h
    simp at h
abbrev sWords : Stmt := topS 8
theorem scWo : FnScope ["text", "found", "at", "line"] ["text"] (defScope sWords) := ⟨rfl, rfl, rfl, by decide +kernel, rfl, by decide +kernel, by decide +kernel⟩
/-- self.f = v, all of them -/
def spInit (C : Addr) (ns : List Str) : Sp := fun vs H Q _ => ∃ (a : Addr) (ws : List V), vs = .ref a :: ws ∧ ws.length = ns.length ∧ H a = some (exo a C none) ∧
  ∀ (dx : Addr) (H' : Hp), H dx = none → (∀ b o, H b = some o → b ≠ a → H' b = some o) → H' a = some (exo a C (some dx)) → H' dx = some (exd dx (ns.zip ws).reverse) → Q .non H'
abbrev nsB : List Str := ["line", "column", "wanted"]
def noneB : List (Str × V) := (nsB.zip [V.non, V.non, V.non]).reverse
structure Tl (T : Addr) (H G : Hp) (p : Addr) (ws : List Wd) : Prop where
  tb : TabG G T
  ex : ∃ xs, G p = some (.lst xs) ∧ DtAll (nw H G p) xs (ws.map dW) ∧ xs.length = ws.length
  sm : ∀ b o, b ≠ T → H b = some o → del G p b = some o
  np : H p = none
section
variable {P : Program} {w : World} {K : PySem.W.Frag} {mg : Str → Option Value} {base : Heap}
def spWords (K : PySem.W.Frag) (T C : Addr) : Sp := fun vs H Q E => ∃ v, vs = [v] ∧ TabG H T ∧
  (((NoStr K H v ∨ ∃ z : List Nat, v = .str ⟨z.toArray⟩ ∧ z.all sgn = false) ∧ ∀ (d : Addr) (H' : Hp), TabG H' T → (∀ b o, b ≠ T → H b = some o → H' b = some o) → H d = none → H' d = some (.xd noneB) → E (.ref C) (some d) H') ∨
   ∃ z : List Nat, v = .str ⟨z.toArray⟩ ∧ z.all sgn = true ∧ z.length ≤ 2000 ∧ ∀ (p : Addr) (G : Hp), Tl T H G p (words z) → Q (.ref p) G)
theorem for_en {a : Addr} {xs : List V} {g : TG} {tb : TS} {D : Ends} {σ : L2.St} {H : Hp} (Pv : Nat → L2.St → Hp → Prop) (h0 : Pv 0 σ H) (hl : ∀ i σ H, Pv i σ H → SqL K H a xs)
    (hs : ∀ i x σ H T, xs[i]? = some x → Pv i σ H → H T = none → g (.ref T) σ (upd H T (.tup [.int (i : Nat), x])) fun σ2 H2 => tb { D with nx := Pv (i + 1), ct := Pv (i + 1), bk := D.nx } σ2 H2) (hd : ∀ σ H, Pv xs.length σ H → D.nx σ H) :
    ∃ W : Nat → Nat → L2.St → Hp → Prop, (∃ m, W 0 m σ H) ∧ ∀ i m σ H, W i m σ H →
      ((Ite K a).stop i H ∧ D.nx σ H) ∨ ((Ite K a).go i H ∧ ∃ N : L2.St → Hp → Prop, (∀ σ' H', N σ' H' → ∃ m', m' < m ∧ W (i + 1) m' σ' H') ∧ ∀ x H', (Ite K a).yld i H x H' → g x σ H' fun σ2 H2 => tb { D with nx := N, ct := N, bk := D.nx } σ2 H2) := by
  refine ⟨fun i m σ H => m = xs.length - i ∧ i ≤ xs.length ∧ Pv i σ H, ⟨_, rfl, Nat.zero_le _, h0⟩, fun i m σ H w => ?_⟩
  obtain ⟨rfl, hi, p⟩ := w
  have q := hl i σ H p
  by_cases lt : i < xs.length
  · have e := List.getElem?_eq_getElem lt
    refine .inr ⟨⟨xs, _, q, e⟩, Pv (i + 1), fun σ' H' p' => ⟨xs.length - (i + 1), by omega, rfl, lt, p'⟩, fun x H' y => ?_⟩
    obtain ⟨T, x', rfl, nT, rfl, ye⟩ := y
    exact hs i x' σ H T (ye xs q) p nT
  · obtain rfl : i = xs.length := by omega
    exact .inl ⟨⟨xs, q, Nat.le_refl _⟩, hd σ H p⟩
theorem dt_app {H : Hp} : ∀ {xs ys : List V} {ds es : List PyData}, DtAll H xs ds → DtAll H ys es → DtAll H (xs ++ ys) (ds ++ es)
  | _, _, _, _, .nil, h => h
  | _, _, _, _, .cons a b, h => .cons a (dt_app b h)
theorem raise_run {T C : Addr} {E : XK} {σ : L2.St} {H : Hp} (tg : TabG H T) (k : ∀ (d : Addr) (H' : Hp), TabG H' T → (∀ b o, b ≠ T → H b = some o → H' b = some o) → H d = none → H' d = some (.xd noneB) → E (.ref C) (some d) H') :
    tMkO C (spInit C nsB) [] (tCons (tC V.non) (tCons (tC V.non) (tCons (tC V.non) tNil))) σ H fun cls d H' => E cls d H' := by
  refine ⟨(show 3 ≤ 1000 by decide), fun a na => ⟨a, [.non, .non, .non], rfl, rfl, upd_same, fun dx H' nd keep ha hd => ?_⟩⟩
  have da : dx ≠ a := fun z => by rw [z, upd_same] at nd; cases nd
  rw [upd_ne da] at nd
  have kp : ∀ b o, H b = some o → (upd (del H' a) dx (.xd noneB)) b = some o := fun b o e => by
    have ba : b ≠ a := fun z => by rw [z, na] at e; cases e
    rw [upd_ne (fun z => by rw [z, nd] at e; cases e), del_ne ba]
    exact keep b o (by rw [upd_ne ba]; exact e) ba
  obtain ⟨ps, h1, h2⟩ := tg
  exact ⟨rfl, dx, _, ha, hd, nd, k dx _ ⟨ps, kp _ _ h1, h2⟩ (fun b o _ e => kp b o e) nd upd_same⟩
theorem ok_words {f ft fl T C fI : Addr} {fd td ld id : FuncData} (F : Fun K "words_of" "words_of" sWords f fd) (me : mg "enumerate" = none)
    (Ft : FnOk P w K mg base CX0 2 ft td ["thing"] (spText K T)) (mt : mg "is_text" = some (.ref ft)) (kt : PySem.W.keepIn K (.ref ft) = true) (bt : Binds K td ["thing"] [])
    (Fl : FnOk P w K mg base CX0 2 fl ld ["line", "number"] spLine) (mgl : mg "words_of_line" = some (.ref fl)) (kl : PySem.W.keepIn K (.ref fl) = true) (bl : Binds K ld ["line", "number"] [])
    (O : OexC K C) (iC : PySem.W.findIn K (.ref C) "__init__" = some (some (.ref fI))) (tI : PySem.W.typeIn K (.ref fI) = some (.type "function")) (FI : FnOk P w K mg base CX0 1 fI id ("self" :: nsB) (spInit C nsB)) (bI : Binds K id ("self" :: nsB) []) (mB : mg "BadText" = some (.ref C)) :
    FnOk P w K mg base (L2.CX P w) 3 f fd ["text"] (spWords K T C) := by
  refine F.okX scWo (fun vs H Q E h => ?_) (fun cdv A outer s H vs Q E hr h => ?_)
  · obtain ⟨v, rfl, _⟩ := h
    rfl
  · obtain ⟨v, rfl, tg, h⟩ := h
    refine ⟨_, pss_cons (ps_if (pt_not (pt_val (pe_call Ft hr rfl mt kt bt .nil pass0 (pa_cons (pv 0) pa_nil)))) (pss_one (ps_raise rfl (takes_of rfl rfl rfl rfl) (pmk_oex O iC tI FI hr bI .nil pass0 (by rfl) mB (pa_cons pe_non (pa_cons pe_non (pa_cons pe_non pa_nil)))))) pss_nil)
      (pss_cons (ps_set (i := 1) scWo.nd rfl (Or.inl rfl) (pe_lst pa_nil))
      (pss_cons (ps_for (passes_of rfl) rfl (pi_enum (by rfl) me (pa_cons (pe_split (pv 0) pe_str) pa_nil)) (pg_tup rfl (pgs_cons (pg_name (i := 2) scWo.nd rfl (Or.inl rfl)) (pgs_cons (pg_name (i := 3) scWo.nd rfl (Or.inl rfl)) pgs_nil)))
        (pss_one (ps_expr (pe_bm PySem.F.plainAttrs_list PySem.F.slot_list_extend PySem.F.type_list_extend mt_extend (pv 1) (pa_cons (pe_call Fl hr rfl mgl kl bl .nil pass0 (pa_cons (pv 3) (pa_cons (pe_op op_add (pv 2) pe_int) pa_nil))) pa_nil)))))
      (pss_one (ps_ret (pv 1))))), ?_⟩
    rcases h with ⟨bad, k⟩ | ⟨z, rfl, hz, hl, k⟩
    · rcases bad with ns | ⟨z, rfl, hz⟩
      · exact ⟨_, rfl, v, rfl, .inl ⟨ns, false, rfl, iteT' rfl (raise_run tg k)⟩⟩
      · refine ⟨_, rfl, _, rfl, .inr ⟨z, rfl, tg, fun H2 h2 => ?_⟩⟩
        rw [hz]
        refine ⟨false, rfl, iteT' rfl (raise_run h2.1 fun d H' h3 h4 h5 h6 => k d H' h3 (fun b o hb e => h4 b o hb (by rw [h2.2 b hb]; exact e)) ?_ h6)⟩
        by_cases dT : d = T
        · obtain ⟨ps, y, _⟩ := h2.1
          rw [dT, y] at h5; cases h5
        · rw [← h2.2 d dT]; exact h5
    · refine ⟨_, rfl, _, rfl, .inr ⟨z, rfl, tg, fun H2 h2 => ?_⟩⟩
      rw [hz]
      refine ⟨true, rfl, iteF' rfl ?_⟩
      have p_T : ∀ {b : Addr}, H2 b = none → b ≠ T := fun {b} e y => by
        obtain ⟨ps, y2, _⟩ := h2.1
        rw [y, y2] at e; cases e
      refine ⟨by decide, fun p np => ⟨_, rfl, ⟨_, rfl⟩, ⟨z.toArray⟩, "\n", rfl, rfl, by decide +kernel, by rw [len_arr, sizeLine_eq]; omega, fun q nq => ?_⟩⟩
      rw [split_lines]
      have qp : q ≠ p := fun y => by rw [y, upd_same] at nq; cases nq
      rw [upd_ne qp] at nq
      generalize hxs : ((lines z).map fun l => (⟨l.toArray⟩ : Str)).map V.str = xs
      have hp0 : (upd (upd H2 p (.lst [])) q (.lst xs)) p = some (.lst []) := by rw [upd_ne (Ne.symm qp), upd_same]
      have lx : xs.length = (lines z).length := by rw [← hxs, List.length_map, List.length_map]
      refine ⟨q, xs, rfl, SqL.of upd_same, for_en (fun i σ G => (∃ o2 o3 : Option V, σ = [some (.str ⟨z.toArray⟩), some (.ref p), o2, o3]) ∧ G q = some (.lst xs) ∧ TabG G T ∧ (∃ ys, G p = some (.lst ys) ∧ DtAll (nw H G p) ys ((wo 1 ((lines z).take i)).map dW) ∧ ys.length = (wo 1 ((lines z).take i)).length ∧ ys.length ≤ i * 2000) ∧ ∀ b o, b ≠ T → H b = some o → del G p b = some o)
        ⟨⟨none, none, rfl⟩, upd_same, ?_, ⟨[], hp0, .nil, rfl, Nat.zero_le _⟩, fun b o bT e => ?_⟩ (fun i σ G h => SqL.of h.2.1) (fun i x σ G t hx h nt => ?_) (fun σ G h => ?_)⟩
      · obtain ⟨ps, y1, y2⟩ := h2.1
        exact ⟨ps, by rw [upd_ne (Ne.symm (p_T nq)), upd_ne (Ne.symm (p_T np))]; exact y1, y2⟩
      · rw [← h2.2 b bT] at e
        have bp : b ≠ p := fun y => by rw [y, np] at e; cases e
        rw [del_ne bp, upd_ne (fun y => by rw [y, nq] at e; cases e), upd_ne bp]
        exact e
      · obtain ⟨⟨o2, o3, rfl⟩, hq, ⟨ps, tb1, tb2⟩, ⟨ys, hp, dt, ly, lb⟩, sm⟩ := h
        have hi : i < xs.length := (List.getElem?_eq_some_iff.mp hx).1
        rw [lx] at hi
        have hl2 := List.getElem?_eq_getElem hi
        have mem := List.getElem_mem hi
        generalize (lines z)[i]'hi = l at hl2 mem
        obtain rfl : x = V.str ⟨l.toArray⟩ := by
          rw [← hxs, List.getElem?_map, List.getElem?_map, hl2] at hx
          exact (Option.some.inj hx).symm
        obtain ⟨l1, l2⟩ := lines_ok mem
        have nn := lines_len z
        have g1 : ∀ {b o}, G b = some o → (upd G t (.tup [.int (i : Nat), .str ⟨l.toArray⟩])) b = some o := fun {b o} e => by
          rw [upd_ne (fun y => by rw [y, nt] at e; cases e)]; exact e
        refine ⟨t, _, rfl, SqT.of upd_same, rfl, _, _, rfl, _, _, rfl, rfl, _, rfl, Or.inl ⟨rfl, _, Or.inl (Or.inl (g1 hp))⟩, _, rfl, _, rfl, i, 1, rfl, rfl, l, (i : Int) + 1, rfl, fun c hc => sgn_lt (List.all_eq_true.mp hz c (l2 c hc)), by omega, fun r G' tw => ?_⟩
        obtain ⟨zs, hr', dz, lz⟩ := tw.ex
        have kp : ∀ {b o}, G b = some o → G' b = some o ∧ b ≠ r := fun {b o} e => by
          have y := tw.sm b o (g1 e)
          by_cases br : b = r
          · rw [br, del_same] at y; cases y
          · rw [del_ne br] at y; exact ⟨y, br⟩
        have ll : (line ((i : Int) + 1) l).length ≤ 2000 := Nat.le_trans (st_len _ l l.length (Nat.le_refl _)) (by omega)
        have pT : p ≠ T := p_T np
        have snoc : (lines z).take (i + 1) = (lines z).take i ++ [l] := by rw [List.take_add_one, hl2]; rfl
        have tl : ((lines z).take i).length = i := by rw [List.length_take]; omega
        have wsn : wo 1 ((lines z).take (i + 1)) = wo 1 ((lines z).take i) ++ line ((i : Int) + 1) l := by rw [snoc, wo_snoc, tl, Int.add_comm]
        refine ⟨p, r, ys, zs, rfl, rfl, (kp hp).1, hr', by rw [lz, sizeLine_eq]; omega, ⟨_, _, rfl⟩, ?_, ⟨ps, ?_, tb2⟩, ⟨ys ++ zs, upd_same, ?_, ?_, ?_⟩, fun b o bT e => ?_⟩
        · rw [upd_ne qp]; exact (kp hq).1
        · rw [upd_ne (Ne.symm pT)]; exact (kp tb1).1
        · rw [wsn, List.map_append]
          refine dt_app (dt.same fun b o y => ?_) (dz.same fun b o y => ?_)
          · obtain ⟨y1, y2⟩ := nw_iff.mp y
            exact nw_iff.mpr ⟨y1, by rw [upd_ne y1.2]; exact (kp y2).1⟩
          · obtain ⟨⟨y1, y2⟩, y3⟩ := nw_iff.mp y
            have bp : b ≠ p := fun u => by rw [u, g1 hp] at y1; cases y1
            refine nw_iff.mpr ⟨⟨?_, bp⟩, by rw [upd_ne bp]; exact y3⟩
            cases u : H b with
            | none => rfl
            | some o' =>
              by_cases bT : b = T
              · rw [bT, g1 tb1] at y1; cases y1
              · have u2 := sm b o' bT u
                rw [del_ne bp] at u2
                rw [g1 u2] at y1; cases y1
        · rw [wsn, List.length_append, List.length_append, ly, lz]
        · rw [List.length_append, lz]; omega
        · have y := sm b o bT e
          by_cases bp : b = p
          · rw [bp, del_same] at y; cases y
          · rw [del_ne bp] at y ⊢
            rw [upd_ne bp]; exact (kp y).1
      · obtain ⟨⟨o2, o3, rfl⟩, hq, tb, ⟨ys, hp, dt, ly, lb⟩, sm⟩ := h
        rw [lx, List.take_length] at dt ly
        exact ⟨_, rfl, k p G ⟨tb, ⟨ys, hp, dt, ly⟩, sm, by rw [← h2.2 p (p_T np)]; exact np⟩⟩
end
end Kw
set_option Elab.async false
set_option linter.all false
set_option maxRecDepth 100000
set_option maxHeartbeats 2000000
/-! enumerate(text), in a for. -/
namespace Ks
open PySem PySem.Spec PyProof.Rows L2
/-- the signs of z by their places, each in a new pair -/
def Itx (z : Str) : It where
  go := fun i _ => i < z.cps.size
  yld := fun i H v H' => ∃ (t : Addr) (c : Nat), v = .ref t ∧ H t = none ∧ z.cps[i]? = some c ∧ H' = upd H t (.tup [.int (i : Nat), .str ⟨#[c]⟩])
  stop := fun i _ => z.cps.size ≤ i
def Stx (z : Str) (u : Tok) (e it i : Nat) (h : Heap) : Prop := (∃ old, IsEnum h e it ((i : Nat) : Int) old) ∧ h.IsStrIter it (strIterType z) z u i ∧ e ≠ it ∧ i ≤ z.cps.size
theorem two {e it b : Addr} (h : b ∈ [e, it]) : b = e ∨ b = it := by simpa using h
theorem turn_text {P : Program} {w : World} {K : PySem.W.Frag} {es : List Expr} {n : Nat} {p : Pos} (e it : Addr) (z : Str) (u : Tok) : Turn P w K (.Tuple es n p) (Itx z) [e, it] e (Stx z u e it) where
  mem := List.mem_cons_self
  obj := fun i h y b hb => by
    obtain ⟨⟨old, y1⟩, ⟨o, y2, _, y3⟩, _⟩ := y
    rcases two hb with rfl | rfl
    · exact ⟨_, y1, (fun v q => nomatch q)⟩
    · exact ⟨o, y2, fun v q => by rw [y3] at q; cases q⟩
  keep := fun i h h' y k => by
    obtain ⟨⟨old, y1⟩, ⟨o, y2, y3⟩, y4⟩ := y
    exact ⟨⟨old, k e (by simp) _ y1⟩, ⟨o, k it (by simp) _ y2, y3⟩, y4⟩
  item := by
    intro X h1 h2 h3 hc i pins s σ H E I hf y hg
    subst h1; subst h2; subst h3
    obtain ⟨⟨old, y1⟩, y2, y3, y4⟩ := y
    have le : e < s.heap.objs.size := Heap.lt_size y1
    have li : it < s.heap.objs.size := by obtain ⟨_, q, _⟩ := y2; exact Heap.lt_size q
    have D : Draws X.prog X.w X.A.in1 it [it] z.cps.size _ _ := Draws.text (show X.A.in1.handled = none from I.ok.hd hc) it z u
    refine wpAny_pyNext_enum_itemD D y1 y2 hg y3 (by simpa using y3) fun x h' tk px out st' ht hsz hk => ?_
    obtain ⟨c, uc, gc, rfl⟩ := px
    refine ⟨_, rfl, wpAny_letOwnedTupleGo_enum (s := { s with heap := h', toks := tk + 1 }) out fun h'' en sb => ?_⟩
    have ht2 := (sb.2 _ (Nat.ne_of_gt le)).trans ht
    have far : ∀ b ∈ [e, it], b ≠ s.heap.objs.size := fun b hb => by
      rcases two hb with rfl | rfl
      · exact Nat.ne_of_lt le
      · exact Nat.ne_of_lt li
    refine ⟨.ref s.heap.objs.size, _, I.turnedNew (t' := tk + 1) (ch := [e, it]) (T := s.heap.objs.size) (ob := .tup [.int (i : Nat), .str ⟨#[c]⟩]) (fun b o hb q => ?_) hf (Nat.le_refl _) ⟨(show 2 ≤ sizeLine by decide), [.int (i : Int) tk, .str ⟨#[c]⟩ uc], .cons ⟨_, rfl⟩ (.cons ⟨_, rfl⟩ .nil), ⟨_, ht2, rfl, _, rfl⟩⟩, rfl, ⟨_, c, rfl, I.hok.fresh (Nat.le_refl _), gc, rfl⟩, ⟨⟨Value.str ⟨#[c]⟩ uc, ?_⟩, ?_, y3, hg⟩, fun b hb => ?_⟩
    · have b1 : b ≠ e := fun q2 => hb (by simp [q2])
      exact (sb.2 b b1).trans (hk b o b1 (fun q2 => hb (by simp [q2])) q)
    · rw [show ((i + 1 : Nat) : Int) = (i : Int) + 1 by omega]; exact en
    · obtain ⟨o, q1, q2⟩ := st'
      exact ⟨o, (sb.2 it (Ne.symm y3)).trans q1, q2⟩
    · rw [upd_ne (far b hb)]
      exact (hf b hb).1
  done := by
    intro X h1 h2 h3 hc i pins s σ H E I hf y hg
    subst h1; subst h2; subst h3
    obtain ⟨⟨old, y1⟩, y2, y3, y4⟩ := y
    obtain ⟨f0, f1, f2, f3, f4, f5⟩ := hf it (by simp)
    obtain rfl : i = z.cps.size := Nat.le_antisymm y4 hg
    exact wpAny_pyNext_enum_endD (Draws.text (show X.A.in1.handled = none from I.ok.hd hc) it z u) y1 y2 fun h' eb => ⟨rfl, I.turned (t' := s.toks) (fun b o hb q => eb b o hb q) f0 f1 f3 f4 f5⟩
  self := fun A i s Q E y q => by
    obtain ⟨⟨_, y1⟩, _⟩ := y
    exact wpAny_pyIter_enum y1 q
def iEnX (ta : TA) : TI := fun σ H R => ta σ H fun vs H1 => ∃ z : Str, vs = [.str z] ∧ R (Itx z) H1
theorem pi_enX {X : Cx} {x : Expr} {ta : TA} {p pos tp : Pos} {es : List Expr} {n : Nat} (hg : Gl X "enumerate") (hm : X.mg "enumerate" = none) (ha : PA X [x] ta) (hs : starEach [x] X.env = [(false, eval x X.env)] := by rfl) : PI X (.Tuple es n tp) (.Call (.Name "enumerate" p) [x] [] pos) (iEnX ta) := ⟨fun pins s σ H R I y => by
  refine Call_ (ld_blt I hg hm boot_enumerate (PyProof.Rows.callWith_type1 (thn (ha.run pos pins s σ H _ I y) fun us s1 q => ?_) hs rfl))
  obtain ⟨vs, H1, I1, r1, z, rfl, q⟩ := q
  obtain ⟨v, rfl, u, rfl⟩ : ∃ v, us = [v] ∧ ∃ u, v = Value.str z u := by
    cases r1 with
    | cons r rr => cases rr; exact ⟨_, rfl, r⟩
  refine call_enumerate_str fun h' he hit hsz hk => wpAny_pyIter_enum he ?_
  have far : ∀ b ∈ [s1.heap.objs.size + 1, s1.heap.objs.size], s1.heap.objs.size ≤ b := fun b hb => by
    rcases two hb with rfl | rfl
    · exact Nat.le_succ _
    · exact Nat.le_refl _
  exact ⟨_, _, _, Itx z, H1, rfl, I1.kept (t' := s1.toks) hk, turn_text (s1.heap.objs.size + 1) s1.heap.objs.size z u, ⟨⟨_, he⟩, hit, Nat.succ_ne_self _, Nat.zero_le _⟩, fun b hb => I1.fpOk (far b hb) (I1.hok.fresh (far b hb)), q⟩⟩
theorem for_enx {l : List Nat} {g : TG} {tb : TS} {D : Ends} {σ : L2.St} {H : Hp} (Pv : Nat → L2.St → Hp → Prop) (h0 : Pv 0 σ H)
    (hs : ∀ i c σ H T, l[i]? = some c → Pv i σ H → H T = none → g (.ref T) σ (upd H T (.tup [.int (i : Nat), .str ⟨#[c]⟩])) fun σ2 H2 => tb { D with nx := Pv (i + 1), ct := Pv (i + 1), bk := D.nx } σ2 H2) (hd : ∀ σ H, Pv l.length σ H → D.nx σ H) :
    ∃ W : Nat → Nat → L2.St → Hp → Prop, (∃ m, W 0 m σ H) ∧ ∀ i m σ H, W i m σ H →
      ((Itx ⟨l.toArray⟩).stop i H ∧ D.nx σ H) ∨ ((Itx ⟨l.toArray⟩).go i H ∧ ∃ N : L2.St → Hp → Prop, (∀ σ' H', N σ' H' → ∃ m', m' < m ∧ W (i + 1) m' σ' H') ∧ ∀ x H', (Itx ⟨l.toArray⟩).yld i H x H' → g x σ H' fun σ2 H2 => tb { D with nx := N, ct := N, bk := D.nx } σ2 H2) := by
  refine ⟨fun i m σ H => m = l.length - i ∧ i ≤ l.length ∧ Pv i σ H, ⟨_, rfl, Nat.zero_le _, h0⟩, fun i m σ H w => ?_⟩
  obtain ⟨rfl, hi, p⟩ := w
  have sz : (⟨l.toArray⟩ : Str).cps.size = l.length := by simp
  by_cases lt : i < l.length
  · refine .inr ⟨by show i < (⟨l.toArray⟩ : Str).cps.size; rw [sz]; exact lt, Pv (i + 1), fun σ' H' p' => ⟨l.length - (i + 1), by omega, rfl, lt, p'⟩, fun x H' y => ?_⟩
    obtain ⟨T, c, rfl, nT, gc, rfl⟩ := y
    exact hs i c σ H T (by simpa using gc) p nT
  · obtain rfl : i = l.length := by omega
    exact .inl ⟨by show (⟨l.toArray⟩ : Str).cps.size ≤ l.length; rw [sz]; exact Nat.le_refl _, hd σ H p⟩
end Ks
set_option Elab.async false
set_option linter.all false
set_option maxRecDepth 100000
set_option maxHeartbeats 2000000
/-! The law's own cutting. -/
namespace Kl
open PySem PySem.Spec PyProof.Rows L2 Sx Rp Dw NdefX Kc Gn GxR Kp Kt Kw Ks
abbrev sInner : Stmt := topS 17
abbrev sCut : Stmt := topS 18
theorem scIn : FnScope ["sign"] ["sign"] (defScope sInner) := ⟨rfl, rfl, rfl, by decide +kernel, rfl, by decide +kernel, by decide +kernel⟩
theorem scCu : FnScope ["text", "found", "row", "line", "former", "column", "sign", "word", "at", "place"] ["text"] (defScope sCut) := ⟨rfl, rfl, rfl, by decide +kernel, rfl, by decide +kernel, by decide +kernel⟩
def btw (lo hi : Str) (c : Nat) : Bool := !decide (([c] : List Nat) < lo.cps.toList) && !decide (hi.cps.toList < [c])
theorem inn_btw : ∀ c, c < 127 → (btw "a" "z" c || (btw "A" "Z" c || (btw "0" "9" c || decide (V.str ⟨#[c]⟩ = V.str "_")))) = inn c := by decide +kernel
def rLeS : R2 := fun x y H Q => ∃ i j, x = .str i ∧ y = .str j ∧ Q (.bl (!decide (j.cps.toList < i.cps.toList))) H
theorem chain_run {lo hi : Str} {c : Nat} {σ : L2.St} {i : Nat} {H : Hp} {Q : V → Hp → Prop} (h : σ[i]? = some (some (V.str ⟨#[c]⟩))) (q : Q (.bl (btw lo hi c)) H) : tChain rLeS rLeS (tC (.str lo)) (tVar i) (tC (.str hi)) σ H Q := by
  refine ⟨_, h, _, _, rfl, rfl, _, rfl, ?_⟩
  unfold btw at q
  by_cases e : ([c] : List Nat) < lo.cps.toList
  · rw [decide_eq_true e] at q
    exact iteF' (by show (!decide (([c] : List Nat) < lo.cps.toList)) = false; rw [decide_eq_true e]; rfl) q
  · rw [decide_eq_false e] at q
    exact iteT' (by show (!decide (([c] : List Nat) < lo.cps.toList)) = true; rw [decide_eq_false e]; rfl) ⟨_, _, rfl, rfl, q⟩
section
variable {P : Program} {w : World} {K : PySem.W.Frag} {mg : Str → Option Value} {base : Heap}
theorem ok_inner {f : Addr} {fd : FuncData} (F : Fun K "_law_inner" "_law_inner" sInner f fd) : FnOk P w K mg base CX0 1 f fd ["sign"] spJoined := by
  refine F.ok scIn (fun vs H Q E h => ?_) (fun cdv A outer s H vs Q E hr h => ?_)
  · obtain ⟨c, rfl, _⟩ := h
    rfl
  · obtain ⟨c, rfl, hc, k⟩ := h
    refine ⟨_, pss_one (ps_ret (pe_or (pe_chain op_le_str op_le_str pe_str (pv 0) pe_str) (pe_or (pe_chain op_le_str op_le_str pe_str (pv 0) pe_str) (pe_or (pe_chain op_le_str op_le_str pe_str (pv 0) pe_str) (pe_one (pe_cmpR op_eq (pv 0) pe_str (nomark _))))))), ?_⟩
    rw [← inn_btw c hc] at k
    dsimp only [tRet, tOrV]
    refine chain_run (i := 0) (c := c) rfl ⟨_, rfl, ?_⟩
    cases h1 : btw "a" "z" c with
    | true => rw [h1, Bool.true_or] at k; exact iteT' rfl k
    | false =>
      rw [h1, Bool.false_or] at k
      refine iteF' rfl (chain_run (i := 0) (c := c) rfl ⟨_, rfl, ?_⟩)
      cases h2 : btw "A" "Z" c with
      | true => rw [h2, Bool.true_or] at k; exact iteT' rfl k
      | false =>
        rw [h2, Bool.false_or] at k
        refine iteF' rfl (chain_run (i := 0) (c := c) rfl ⟨_, rfl, ?_⟩)
        cases h3 : btw "0" "9" c with
        | true => rw [h3, Bool.true_or] at k; exact iteT' rfl k
        | false =>
          rw [h3, Bool.false_or] at k
          exact iteF' rfl ⟨_, rfl, rfl, k⟩
end
/-! ### the list that grows and shrinks -/
structure Ld (H G : Hp) (p q : Addr) (L : List V) (ws : List Wd) : Prop where
  ex : ∃ xs, G p = some (.lst xs) ∧ DtAll (nw H G p) xs (ws.map dW) ∧ xs.length = ws.length
  qq : G q = some (.lst L)
  qp : q ≠ p
  sm : ∀ b o, H b = some o → del G p b = some o
  np : H p = none
theorem Ld.new {H G : Hp} {p q t : Addr} {L : List V} {ws : List Wd} {o : HO} (D : Ld H G p q L ws) (nt : G t = none) : Ld H (upd G t o) p q L ws := by
  obtain ⟨xs, hp, dt, le⟩ := D.ex
  have k : ∀ {b o'}, G b = some o' → upd G t o b = some o' := fun {b o'} e => by rw [upd_ne (fun y => by rw [y, nt] at e; cases e)]; exact e
  refine ⟨⟨xs, k hp, dt.same fun b o' y => ?_, le⟩, k D.qq, D.qp, fun b o' y => ?_, D.np⟩
  · obtain ⟨y1, y2⟩ := nw_iff.mp y
    exact nw_iff.mpr ⟨y1, k y2⟩
  · have y2 := D.sm b o' y
    by_cases bp : b = p
    · rw [bp, del_same] at y2; cases y2
    · rw [del_ne bp] at y2 ⊢; exact k y2
theorem nw_p {H G : Hp} {p : Addr} {o : HO} : nw H (upd G p o) p = nw H G p := funext fun b => by
  unfold nw
  by_cases h : H b = none ∧ b ≠ p
  · rw [if_pos h, if_pos h, upd_ne h.2]
  · rw [if_neg h, if_neg h]
/-- p's list changed -/
theorem Ld.put {H G : Hp} {p q : Addr} {L : List V} {ws ws' : List Wd} {xs : List V} (D : Ld H G p q L ws) (h : DtAll (nw H G p) xs (ws'.map dW)) (le : xs.length = ws'.length) : Ld H (upd G p (.lst xs)) p q L ws' :=
  ⟨⟨xs, upd_same, by rw [nw_p]; exact h, le⟩, by rw [upd_ne D.qp]; exact D.qq, D.qp, fun b o y => by rw [del_updP]; exact D.sm b o y, D.np⟩
theorem dt_unsnoc {H : Hp} {d : PyData} : ∀ {xs : List V} {ds : List PyData}, DtAll H xs (ds ++ [d]) → ∃ ys v, xs = ys ++ [v] ∧ DtAll H ys ds ∧ Dt H v d
  | _, [], .cons a .nil => ⟨[], _, rfl, .nil, a⟩
  | _, e :: ds, .cons a b => by
    obtain ⟨ys, v, rfl, h1, h2⟩ := dt_unsnoc b
    exact ⟨_ :: ys, v, rfl, .cons a h1, h2⟩
theorem dt_word {H : Hp} {v : V} {x : Wd} (h : Dt H v (dW x)) : ∃ t, v = .ref t ∧ H t = some (.tup [.str ⟨x.1.toArray⟩, .int x.2.1, .int x.2.2]) := by
  unfold dW at h
  cases h with
  | tup e a =>
    cases a with
    | cons a1 a =>
      cases a with
      | cons a2 a =>
        cases a with
        | cons a3 a =>
          cases a
          cases a1; cases a2; cases a3
          exact ⟨_, rfl, e⟩
theorem Ld.add {H G : Hp} {p q t : Addr} {L : List V} {ws : List Wd} {ys : List V} (x : Wd) (D : Ld H G p q L ws) (hp : G p = some (.lst ys)) (nt : G t = none) :
    Ld H (upd (upd G t (.tup [.str ⟨x.1.toArray⟩, .int x.2.1, .int x.2.2])) p (.lst (ys ++ [.ref t]))) p q L (ws ++ [x]) := by
  have tp : t ≠ p := fun y => by rw [y, hp] at nt; cases nt
  have ht : H t = none := by
    cases y : H t with
    | none => rfl
    | some o =>
      have y2 := D.sm _ _ y
      rw [del_ne tp, nt] at y2
      cases y2
  have D1 := D.new (o := .tup [.str ⟨x.1.toArray⟩, .int x.2.1, .int x.2.2]) nt
  obtain ⟨ys', hp', dt, le⟩ := D1.ex
  rw [upd_ne (Ne.symm tp), hp] at hp'
  obtain rfl : ys = ys' := by injection hp' with e; injection e
  refine D1.put ?_ (by rw [List.length_append, List.length_append, le]; rfl)
  rw [List.map_append]
  exact dt_snoc dt (.tup (xs := [.str ⟨x.1.toArray⟩, .int x.2.1, .int x.2.2]) (nw_iff.mpr ⟨⟨ht, tp⟩, upd_same⟩) (.cons (.str _) (.cons (.int _) (.cons (.int _) .nil))))
theorem Ld.last {H G : Hp} {p q : Addr} {L : List V} {ws : List Wd} {x : Wd} (D : Ld H G p q L (ws ++ [x])) : ∃ ys t, G p = some (.lst (ys ++ [.ref t])) ∧ t ≠ p ∧ G t = some (.tup [.str ⟨x.1.toArray⟩, .int x.2.1, .int x.2.2]) ∧ Ld H (upd G p (.lst ys)) p q L ws := by
  obtain ⟨xs, hp, dt, le⟩ := D.ex
  rw [List.map_append] at dt
  obtain ⟨ys, v, rfl, d1, d2⟩ := dt_unsnoc dt
  obtain ⟨t, rfl, ht⟩ := dt_word d2
  obtain ⟨⟨_, tp⟩, ht⟩ := nw_iff.mp ht
  rw [List.length_append, List.length_append] at le
  exact ⟨ys, t, hp, tp, ht, ⟨⟨ys, upd_same, by rw [nw_p]; exact d1, Nat.add_right_cancel le⟩, by rw [upd_ne D.qp]; exact D.qq, D.qp, fun b o y => by rw [del_updP]; exact D.sm b o y, D.np⟩⟩
theorem grow_mem {c : Nat} {x : Wd} : ∀ {l : List Wd}, x ∈ grow c l → ∃ y ∈ l, x.1.length ≤ y.1.length + 1
  | [], h => nomatch h
  | [y], h => by
    obtain rfl := List.mem_singleton.mp (show x ∈ [((y.1 ++ [c], y.2) : Wd)] from h)
    exact ⟨y, List.mem_singleton.mpr rfl, by simp⟩
  | y :: z :: r, h => by
    rcases List.mem_cons.mp (show x ∈ y :: grow c (z :: r) from h) with rfl | h
    · exact ⟨_, List.mem_cons_self, Nat.le_succ _⟩
    · obtain ⟨u, hu, e⟩ := grow_mem h
      exact ⟨u, List.mem_cons_of_mem _ hu, e⟩
theorem st_wlen (n : Int) (l : List Nat) : ∀ i, i ≤ l.length → ∀ x ∈ (st n l i).1, x.1.length ≤ i
  | 0, _, x, h => nomatch h
  | i + 1, hi, x, h => by
    have r := st_wlen n l i (by omega)
    rw [st_succ n (List.getElem?_eq_getElem (show i < l.length by omega))] at h
    unfold Kc.step at h
    split at h
    · obtain ⟨y, hy, e⟩ := grow_mem h
      have := r y hy
      omega
    · split at h
      · exact Nat.le_succ_of_le (r x h)
      · rcases List.mem_append.mp h with h | h
        · exact Nat.le_succ_of_le (r x h)
        · rw [List.mem_singleton.mp h]; show 1 ≤ i + 1; omega
section
variable {P : Program} {w : World} {K : PySem.W.Frag} {mg : Str → Option Value} {base : Heap}
def spCut : Sp := fun vs H Q _ => ∃ z : List Nat, vs = [.str ⟨z.toArray⟩] ∧ (∀ c ∈ z, c < 127) ∧ z.length ≤ 2000 ∧ ∀ (p q : Addr) (L : List V) (G : Hp), Ld H G p q L (words z) → Q (.ref p) G
theorem ok_cut {f g : Addr} {fd gd : FuncData} (F : Fun K "_law_cut" "_law_cut" sCut f fd) (me : mg "enumerate" = none)
    (Gi : FnOk P w K mg base CX0 1 g gd ["sign"] spJoined) (mgf : mg "_law_inner" = some (.ref g)) (kp : PySem.W.keepIn K (.ref g) = true) (b : Binds K gd ["sign"] []) : FnOk P w K mg base CX0 2 f fd ["text"] spCut := by
  refine F.ok scCu (fun vs H Q E h => ?_) (fun cdv A outer s H vs Q E hr h => ?_)
  · obtain ⟨z, rfl, _⟩ := h
    rfl
  · obtain ⟨z, rfl, hz, hl, k⟩ := h
    refine ⟨_, pss_cons (ps_set (i := 1) scCu.nd rfl (Or.inl rfl) (pe_lst pa_nil))
      (pss_cons (ps_for PassesOwn.never rfl (pi_enum (by rfl) me (pa_cons (pe_split (pv 0) pe_str) pa_nil)) (pg_tup rfl (pgs_cons (pg_name (i := 2) scCu.nd rfl (Or.inl rfl)) (pgs_cons (pg_name (i := 3) scCu.nd rfl (Or.inl rfl)) pgs_nil)))
        (pss_cons (ps_set (i := 4) scCu.nd rfl (Or.inl rfl) pe_str)
        (pss_one (ps_for PassesOwn.never rfl (pi_enX (by rfl) me (pa_cons (pv 3) pa_nil)) (pg_tup rfl (pgs_cons (pg_name (i := 5) scCu.nd rfl (Or.inl rfl)) (pgs_cons (pg_name (i := 6) scCu.nd rfl (Or.inl rfl)) pgs_nil)))
          (pss_cons (ps_if (PW.pt (pw_and (pt_cmpR op_ne (pv 6) pe_str (nomark _)) (pw_and (pt_val (pe_call Gi hr rfl mgf kp b .nil pass0 (pa_cons (pv 6) pa_nil))) (pw_and1 (pt_val (pe_call Gi hr rfl mgf kp b .nil pass0 (pa_cons (pv 4) pa_nil)))))))
              (pss_cons (ps_asg (pe_bm0 PySem.F.plainAttrs_list PySem.F.slot_list_pop PySem.F.type_list_pop mt_pop (pv 1)) (pg_tup rfl (pgs_cons (pg_name (i := 7) scCu.nd rfl (Or.inl rfl)) (pgs_cons (pg_name (i := 8) scCu.nd rfl (Or.inl rfl)) (pgs_cons (pg_name (i := 9) scCu.nd rfl (Or.inl rfl)) pgs_nil)))))
              (pss_one (ps_expr (pe_bm PySem.F.plainAttrs_list PySem.F.slot_list_append PySem.F.type_list_append mt_append (pv 1) (pa_cons (pe_tup (pa_cons (pe_op op_add_str (pv 7) (pv 6)) (pa_cons (pv 8) (pa_cons (pv 9) pa_nil)))) pa_nil)))))
              (pss_one (ps_if (pt_cmpR op_ne (pv 6) pe_str (nomark _)) (pss_one (ps_expr (pe_bm PySem.F.plainAttrs_list PySem.F.slot_list_append PySem.F.type_list_append mt_append (pv 1) (pa_cons (pe_tup (pa_cons (pv 6) (pa_cons (pe_op op_add (pv 2) pe_int) (pa_cons (pe_op op_add (pv 5) pe_int) pa_nil)))) pa_nil)))) pss_nil)))
          (pss_one (ps_set (i := 4) scCu.nd rfl (Or.inl rfl) (pv 6))))))))
      (pss_one (ps_ret (pv 1)))), ?_⟩
    refine ⟨by decide, fun p np => ⟨_, rfl, ⟨_, rfl⟩, ⟨z.toArray⟩, "\n", rfl, rfl, by decide +kernel, by rw [len_arr, sizeLine_eq]; omega, fun q nq => ?_⟩⟩
    rw [split_lines]
    have qp : q ≠ p := fun y => by rw [y, upd_same] at nq; cases nq
    rw [upd_ne qp] at nq
    generalize hxs : ((lines z).map fun l => (⟨l.toArray⟩ : Str)).map V.str = xs
    have lx : xs.length = (lines z).length := by rw [← hxs, List.length_map, List.length_map]
    refine ⟨q, xs, rfl, SqL.of upd_same, for_en (fun i σ G => (∃ o2 o3 o4 o5 o6 o7 o8 o9 : Option V, σ = [some (.str ⟨z.toArray⟩), some (.ref p), o2, o3, o4, o5, o6, o7, o8, o9]) ∧ Ld H G p q xs (wo 1 ((lines z).take i)) ∧ (wo 1 ((lines z).take i)).length ≤ i * 2000)
      ⟨⟨none, none, none, none, none, none, none, none, rfl⟩, ⟨⟨[], by rw [upd_ne (Ne.symm qp), upd_same], .nil, rfl⟩, upd_same, qp, fun b o y => ?_, np⟩, Nat.zero_le _⟩ (fun i σ G h => SqL.of h.2.1.qq) (fun i x σ G t hx h nt => ?_) (fun σ G h => ?_)⟩
    · have bp : b ≠ p := fun u => by rw [u, np] at y; cases y
      rw [del_ne bp, upd_ne (fun u => by rw [u, nq] at y; cases y), upd_ne bp]
      exact y
    · obtain ⟨⟨o2, o3, o4, o5, o6, o7, o8, o9, rfl⟩, D, lb⟩ := h
      have hi : i < xs.length := (List.getElem?_eq_some_iff.mp hx).1
      rw [lx] at hi
      have hl2 := List.getElem?_eq_getElem hi
      have mem := List.getElem_mem hi
      generalize (lines z)[i]'hi = l at hl2 mem
      obtain rfl : x = V.str ⟨l.toArray⟩ := by
        rw [← hxs, List.getElem?_map, List.getElem?_map, hl2] at hx
        exact (Option.some.inj hx).symm
      obtain ⟨l1, l2⟩ := lines_ok mem
      have nn := lines_len z
      have snoc : (lines z).take (i + 1) = (lines z).take i ++ [l] := by rw [List.take_add_one, hl2]; rfl
      have tl : ((lines z).take i).length = i := by rw [List.length_take]; omega
      have wsn : wo 1 ((lines z).take (i + 1)) = wo 1 ((lines z).take i) ++ line ((i : Int) + 1) l := by rw [snoc, wo_snoc, tl, Int.add_comm]
      generalize wo 1 ((lines z).take i) = ws0 at D lb wsn
      rw [wsn]
      refine ⟨t, _, rfl, SqT.of upd_same, rfl, _, _, rfl, _, _, rfl, rfl, ?_⟩
      refine ⟨_, rfl, ⟨l.toArray⟩, rfl, for_enx (l := l) (fun j σ G' => (∃ (cf : Nat) (o5 o6 o7 o8 o9 : Option V), cf < 127 ∧ inn cf = (st ((i : Int) + 1) l j).2 ∧ σ = [some (.str ⟨z.toArray⟩), some (.ref p), some (.int (i : Nat)), some (.str ⟨l.toArray⟩), some (.str ⟨#[cf]⟩), o5, o6, o7, o8, o9]) ∧ Ld H G' p q xs (ws0 ++ (st ((i : Int) + 1) l j).1)) ⟨⟨32, o5, o6, o7, o8, o9, by decide, rfl, rfl⟩, ?_⟩ (fun j c σ G' T gc h nT => ?_) (fun σ G' h => ?_)⟩
      · rw [st_zero, List.append_nil]
        exact D.new nt
      · obtain ⟨⟨cf, o5, o6, o7, o8, o9, hcf, hin, rfl⟩, D⟩ := h
        have jl : j < l.length := (List.getElem?_eq_some_iff.mp gc).1
        have hc : c < 127 := hz c (l2 c (List.mem_of_getElem? gc))
        have ss := st_succ ((i : Int) + 1) gc
        have sl := st_len ((i : Int) + 1) l j (by omega)
        have sw := st_wlen ((i : Int) + 1) l j (by omega)
        have sf := (st_flag ((i : Int) + 1) l j (by omega)).1
        have D1 := D.new (o := .tup [.int (j : Nat), .str ⟨#[c]⟩]) nT
        refine ⟨T, _, rfl, SqT.of upd_same, rfl, _, _, rfl, _, _, rfl, rfl, ?_⟩
        generalize upd G' T (.tup [.int (j : Nat), .str ⟨#[c]⟩]) = G1 at D1
        obtain ⟨ys, hp, _, ly⟩ := D1.ex
        rw [List.length_append] at ly
        have small : ys.length < sizeLine := by rw [sizeLine_eq]; omega
        have tyv : tyV K "list" (.ref p) G1 := Or.inl ⟨rfl, _, Or.inl (Or.inl hp)⟩
        refine ⟨_, rfl, rfl, _, rfl, ?_⟩
        by_cases c32 : c = 32
        · have e0 : (!decide (V.str ⟨#[c]⟩ = V.str (" " : Str))) = false := by subst c32; decide
          have ni : ¬ (inn c = true ∧ (st ((i : Int) + 1) l j).2 = true) := fun y => by rw [c32] at y; cases y.1
          unfold Kc.step at ss
          rw [if_neg ni, if_pos c32] at ss
          refine iteF' e0 (iteF' rfl ⟨_, rfl, rfl, _, rfl, iteF' e0 ⟨_, rfl, ⟨c, _, _, _, _, _, hc, ?_, rfl⟩, ?_⟩⟩)
          · rw [ss, c32]; rfl
          · rw [ss]; exact D1
        · have e1 : (!decide (V.str ⟨#[c]⟩ = V.str (" " : Str))) = true := by rw [decide_eq_false (ne_blank c32)]; rfl
          by_cases both : inn c = true ∧ inn cf = true
          · have bs : inn c = true ∧ (st ((i : Int) + 1) l j).2 = true := ⟨both.1, by rw [← hin]; exact both.2⟩
            have ne := sf bs.2
            unfold Kc.step at ss
            rw [if_pos bs] at ss
            obtain ⟨ws1, x, ew⟩ : ∃ ws1 x, (st ((i : Int) + 1) l j).1 = ws1 ++ [x] := ⟨_, _, (List.dropLast_concat_getLast ne).symm⟩
            have wx := sw x (by rw [ew]; simp)
            have eg : (st ((i : Int) + 1) l (j + 1)).1 = ws1 ++ [(x.1 ++ [c], x.2)] := by rw [ss]; show grow c _ = _; rw [ew, grow_snoc]
            rw [ew, ← List.append_assoc] at D1
            obtain ⟨zs, t0, hp2, tp, ht0, D2⟩ := D1.last
            have ez : ys = zs ++ [V.ref t0] := by rw [hp] at hp2; injection hp2 with e; injection e
            have lz : zs.length < sizeLine := by rw [ez, List.length_append] at small; exact Nat.lt_of_le_of_lt (Nat.le_add_right _ _) small
            refine iteT' e1 ⟨_, rfl, c, rfl, hc, _, rfl, iteT' both.1 ⟨_, rfl, cf, rfl, hcf, _, rfl, iteT' both.2 ?_⟩⟩
            refine ⟨_, rfl, tyv, p, ys, .ref t0, rfl, rfl, hp, ?_, ?_⟩
            · rw [ez, List.length_append]
              show (zs ++ [V.ref t0])[zs.length + 1 - 1]? = _
              simp
            · have ed : ys.dropLast = zs := by rw [ez]; simp
              rw [ed]
              have ht1 : (upd G1 p (.lst zs)) t0 = some (.tup [.str ⟨x.1.toArray⟩, .int x.2.1, .int x.2.2]) := by rw [upd_ne tp]; exact ht0
              have hpz : (upd G1 p (.lst zs)) p = some (.lst zs) := upd_same
              generalize upd G1 p (.lst zs) = G2 at D2 ht1 hpz
              refine ⟨t0, _, rfl, SqT.of ht1, rfl, _, _, rfl, _, _, rfl, _, _, rfl, rfl, ?_⟩
              refine ⟨_, rfl, Or.inl ⟨rfl, _, Or.inl (Or.inl hpz)⟩, _, rfl, _, rfl, _, _, rfl, rfl, ?_, _, rfl, _, rfl, (show 3 ≤ sizeLine by decide), fun t2 nt2 => ?_⟩
              · rw [len_arr, sizeLine_eq]; show x.1.length + 1 ≤ _; omega
              · have tp2 : t2 ≠ p := fun y => by rw [y, hpz] at nt2; cases nt2
                refine ⟨p, zs, .ref t2, rfl, rfl, (upd_ne (Ne.symm tp2)).trans hpz, lz, _, rfl, ⟨c, _, _, _, _, _, hc, ?_, rfl⟩, ?_⟩
                · rw [ss]; exact both.1
                · rw [eg, ← List.append_assoc]
                  have ea : ((⟨x.1.toArray⟩ : Str) ++ ⟨#[c]⟩) = ⟨(x.1 ++ [c]).toArray⟩ := congrArg Str.mk (by simp)
                  rw [ea]
                  exact D2.add (x.1 ++ [c], x.2) hpz nt2
          · have ni : ¬ (inn c = true ∧ (st ((i : Int) + 1) l j).2 = true) := fun y => both ⟨y.1, by rw [hin]; exact y.2⟩
            unfold Kc.step at ss
            rw [if_neg ni, if_neg c32] at ss
            have rest : _ := fun (t2 : Addr) (nt2 : G1 t2 = none) => D1.add ([c], (i : Int) + 1, (j : Int) + 1) hp nt2
            refine iteT' e1 ⟨_, rfl, c, rfl, hc, _, rfl, ?_⟩
            by_cases ic : inn c = true
            · have icf : inn cf = false := by
                cases y : inn cf with
                | false => rfl
                | true => exact absurd ⟨ic, y⟩ both
              refine iteT' ic ⟨_, rfl, cf, rfl, hcf, _, rfl, iteF' icf ?_⟩
              refine ⟨_, rfl, rfl, _, rfl, iteT' e1 ⟨_, rfl, tyv, _, rfl, _, rfl, _, _, rfl, rfl, _, rfl, _, _, rfl, rfl, (show 3 ≤ sizeLine by decide), fun t2 nt2 => ⟨p, ys, .ref t2, rfl, rfl, (upd_ne (fun y => by rw [← y, hp] at nt2; cases nt2)).trans hp, small, _, rfl, ⟨c, _, _, _, _, _, hc, ?_, rfl⟩, ?_⟩⟩⟩
              · rw [ss]
              · rw [ss, ← List.append_assoc]; exact rest t2 nt2
            · refine iteF' (by simpa using ic) (iteF' rfl ?_)
              refine ⟨_, rfl, rfl, _, rfl, iteT' e1 ⟨_, rfl, tyv, _, rfl, _, rfl, _, _, rfl, rfl, _, rfl, _, _, rfl, rfl, (show 3 ≤ sizeLine by decide), fun t2 nt2 => ⟨p, ys, .ref t2, rfl, rfl, (upd_ne (fun y => by rw [← y, hp] at nt2; cases nt2)).trans hp, small, _, rfl, ⟨c, _, _, _, _, _, hc, ?_, rfl⟩, ?_⟩⟩⟩
              · rw [ss]
              · rw [ss, ← List.append_assoc]; exact rest t2 nt2
      · obtain ⟨⟨cf, o5, o6, o7, o8, o9, hcf, hin, rfl⟩, D⟩ := h
        refine ⟨⟨_, _, _, _, _, _, _, _, rfl⟩, D, ?_⟩
        rw [List.length_append]
        have := st_len ((i : Int) + 1) l l.length (Nat.le_refl _)
        show ws0.length + (st ((i : Int) + 1) l l.length).1.length ≤ _
        omega
    · obtain ⟨⟨o2, o3, o4, o5, o6, o7, o8, o9, rfl⟩, D, _⟩ := h
      rw [lx, List.take_length] at D
      exact ⟨_, rfl, k p q xs G D⟩
end
end Kl
set_option Elab.async false
set_option linter.all false
set_option maxRecDepth 100000
set_option maxHeartbeats 2000000
/-! try .. except X as n: the caught error is an object like others in the suite and behind it. -/
namespace Ky
open PySem PySem.Spec PyProof.Rows L2
/-- an error at a: its class, its dict -/
def exv (a : Addr) (cls : Value) (d : Option Addr) : HO := .ext fun h => ∃ (o : Obj) (vs : Array Value), h.get? a = some o ∧ o.cls = cls ∧ o.dict = d ∧ o.data = .fields vs
section
variable {X : Cx} {pins : List (Addr × Obj)} {σ : L2.St} {H : Hp} {s : Shared}
theorem exv_ok {P : Program} {w : World} {h : Heap} {a : Addr} {o : Obj} {vs : Array Value} (e : h.get? a = some o) (hd : o.data = .fields vs) : ObjOk P w H h a (exv a o.cls o.dict) :=
  ⟨⟨o, vs, e, rfl, rfl, hd⟩, ⟨o, e⟩, fun h1 h2 y k => by
    obtain ⟨o', vs', y1, y2⟩ := y
    exact ⟨o', vs', k o' y1, y2⟩⟩
/-- an object that came since the entry is tracked from now on -/
theorem Inv.adopt {a : Addr} {u : HO} (I : Inv X pins σ H s) (na : H a = none) (n0 : X.s_0.heap.get? a = none) (nL : a ≠ X.env.locals) (nC : ∀ x c, X.env.cells.lookup x = some c → c ≠ a) (nP : ∀ p ∈ X.pn ++ pins, p.1 ≠ a) (new : ObjOk X.prog X.w (upd H a u) s.heap a u) : Inv X pins σ (upd H a u) s := by
  have far : ∀ b o, X.s_0.heap.get? b = some o → b ≠ a := fun b o e y => by rw [y, n0] at e; cases e
  have keep : ∀ {b o}, H b = some o → upd H a u b = some o := fun {b o} e => by rw [upd_ne (fun y => by rw [y, na] at e; cases e)]; exact e
  refine ⟨I.ok, I.os, I.bare, ⟨I.base.keep, I.base.slot, fun b o e n x => ?_, I.base.there, fun b xs e => keep (I.base.tups b xs e), fun b o v e => keep (I.base.frzs b o v e), fun b ps e => ?_⟩, I.loc, I.cell, ?_, fun x c e => ?_, fun p hp => ?_, I.hok.laidN (fun _ _ q => q) na new, I.len⟩
  · rw [upd_ne (far b o e)]; exact I.base.free b o e n x
  · obtain ⟨m, q⟩ := I.base.tbls b ps e
    exact ⟨m, keep q⟩
  · rw [upd_ne (Ne.symm nL)]; exact I.free
  · rw [upd_ne (nC x c e)]; exact I.freeC x c e
  · obtain ⟨p1, p2, p3⟩ := I.pin p hp
    exact ⟨p1, by rw [upd_ne (nP p hp)]; exact p2, p3⟩
/-- into a suite, out of it -/
theorem into (I : Inv X pins σ H s) (a : Addr) : Inv (X.suite a (X.pn ++ pins)) [] σ H s :=
  ⟨I.ok.suite _ _, I.os, I.bare, I.base, I.loc, I.cell, I.free, I.freeC, fun p hp => I.pin p (by rw [List.append_nil] at hp; exact hp), I.hok, I.len⟩
theorem outof {a : Addr} (ok : X.Ok) (I : Inv (X.suite a (X.pn ++ pins)) [] σ H s) : Inv X pins σ H s :=
  ⟨ok, I.os, I.bare, I.base, I.loc, I.cell, I.free, I.freeC, fun p hp => I.pin p (List.mem_append_left _ hp), I.hok, I.len⟩
/-- what the clause wishes of an error of the body: it is of the class c -/
def wOwn (K : PySem.W.Frag) (c : Value) (i : Nat) (ts : TS) (D : Ends) : WX := fun cls d σ H => PySem.W.exmOne K cls c = some true ∧ ∀ a, H a = none →
  ts ⟨fun σ' H' => D.nx (σ'.set i none) H', D.rt, fun σ' H' => D.bk (σ'.set i none) H', fun σ' H' => D.ct (σ'.set i none) H'⟩ (σ.set i (some (.ref a))) (upd H a (exv a cls d))
end
section
variable {X : Cx} {body suite : List Stmt} {b₀ : Stmt} {x n : Str} {np pos pos' : Pos} {c : Value} {i : Nat} {tb : WX → TS} {ts : TS}
theorem ps_try_own (hs : X.stack = X.env :: X.outer) (hf : X.env.frame = some X.env.locals) (hN : X.N.Nodup) (hi : X.N[i]? = some n) (hln : X.env.kindOf n = some .local) (hc : Names X x c) (hex : X.ex = [])
    (hb : ∀ (W : WX) (pn : List (Addr × Obj)) (xe : Value → Shared → Prop), Takes (X.tr pn xe) W → PassesOwn (model X.prog X.w) X.A X.env xe → PSs (X.tr pn xe) body (tb W)) (hsu : ∀ (a : Addr) (pn : List (Addr × Obj)), PSs (X.suite a pn) (b₀ :: suite) ts) :
    PS X (.Try body [.ExceptHandler (some (.Name x np)) (some n) (b₀ :: suite) pos'] [] [] pos) (fun D σ H => tb (wOwn X.K c i ts D) D σ H) := ⟨fun pins s σ H D I y => by
  have ok := I.ok
  have fr : X.A.frames = some (X.env :: X.outer) := by rw [ok.frames, hs]
  let caught : Value → Shared → Prop := fun e s1 => wpAny (model X.prog X.w) X.A (noteFrame e X.env) (fun _ s2 => wpAny (model X.prog X.w) X.A (setFlight e none) (fun _ s3 => wpAny (model X.prog X.w) X.A (handleBy e X.env [.ExceptHandler (some (.Name x np)) (some n) (b₀ :: suite) pos']) (SP X pins D) X.xe s3) X.xe s2) X.xe s1
  have catches : Takes (X.tr (X.pn ++ pins) caught) (wOwn X.K c i ts D) := fun u s' xx => by
    obtain ⟨a, B, sI, ps, σ1, H1, cls, d, rfl, J0, nb, up, sky, na, os, ag, hm, yes⟩ := xx
    have J : Inv X pins σ1 H1 sI := J0.ofTry ok
    refine Sky.land Zc.steady fr hf (show Sky B (X.env :: X.outer) a (Zc cls d) X.env.locals s'.heap by rw [← hs]; exact sky) fun h3 fl up3 => ?_
    have J3 : Inv X pins σ1 H1 { s' with heap := h3 } := J.landed nb fl.1 (up.trans up3) os ag
    obtain ⟨o3, v3, e3, z3, d3⟩ := fl.there
    have nfr : a ∉ frs (X.env :: X.outer) := fun y => by
      obtain ⟨_, o', e', k'⟩ := fl.2.2.1.mem y
      rw [e3] at e'; cases e'
      exact k' _ d3
    have nL : a ≠ X.env.locals := fun y => nfr (List.mem_filterMap.mpr ⟨X.env, List.mem_cons_self, by rw [hf, y]⟩)
    have n0 : X.s_0.heap.get? a = none := by
      cases e : X.s_0.heap.get? a with
      | none => rfl
      | some o =>
        obtain ⟨o', q⟩ := J.base.there a o e (by rw [hex]; exact fun z => nomatch z)
        have q2 := nb a o' q (by rw [hs]; exact nfr)
        rw [fl.2.1] at q2; cases q2
    have nP : ∀ {h : Heap} {o : Obj}, h.get? a = some o → True := fun _ => True.intro
    have S3 := into J3 a
    refine wpAny_handleBy_cons (codeAny_handlers_test ?_) (by intro q; cases q)
    have LT : PySem.W.Looks (model X.prog X.w) h3 (typeOf (.ref a)) cls := fun A Q E s k q => wpAny_typeOf_ref (k _ _ e3) (by rw [z3.1]; exact q)
    have name : ∀ {Q : Value → Shared → Prop} {E : Value → Shared → Prop}, Q c { s' with heap := h3 } → wpAny (model X.prog X.w) (X.A.mark (some (.ref a))) (eval (.Name x np) X.env) Q E { s' with heap := h3 } := fun {Q E} q => by
      obtain ⟨g1, g2, g3 | ⟨g3, g4, g5⟩⟩ := hc
      · exact ld_glob (X := X.suite a (X.pn ++ pins)) S3 g1 g3 q g2
      · exact ld_blt (X := X.suite a (X.pn ++ pins)) S3 g1 g3 g4 q g5 g2
    refine name ((PySem.W.exm_one (M := model X.prog X.w) J3.kIn LT hm).here ?_)
    refine codeAny_handlers_suite_as (HandSPX.lands_againZ fl fun h4 fl4 up4 => ?_)
    have J4 : Inv X pins σ1 H1 { s' with heap := h4 } := J.landed nb fl4.1 ((up.trans up3).trans up4) os ag
    obtain ⟨o4, v4, e4, ⟨z1, z2⟩, d4⟩ := fl4.there
    subst z1; subst z2
    have nC : ∀ x c, X.env.cells.lookup x = some c → c ≠ a := fun x c e y => by
      obtain ⟨v, ⟨o, q1, q2⟩⟩ := J4.cell x c e
      rw [y, e4] at q1; cases q1
      rw [d4] at q2; cases q2
    have J5 := Inv.adopt (u := exv a o4.cls o4.dict) J4 na n0 nL nC (fun p hp y => ?_) (exv_ok e4 d4)
    · refine store_ok (X := X.suite a (X.pn ++ pins)) (v := .ref a) (into J5 a) hN hi (.inl hln) rfl (fun s5 S5 => ?_) (.inr hln)
      refine wpAny_mono ((hsu a (X.pn ++ pins)).run [] s5 _ _ _ S5 (yes a na)) (fun f s6 q => ?_) (fun _ _ z => z.elim)
      have gone : ∀ {σ6 : L2.St} {H6 : Hp} {R : Shared → Prop}, Inv (X.suite a (X.pn ++ pins)) [] σ6 H6 s6 → (∀ s7, Inv X pins (σ6.set i none) H6 s7 → R s7) → wpAny (model X.prog X.w) X.A (do bindName X.env n .none; unbindBehindTheSuite X.env n pos') (fun _ s7 => R s7) X.xe s6 := fun {σ6 H6 R} S6 r => gone_ok (outof ok S6) hN hi hln r
      cases f with
      | next => obtain ⟨σ6, H6, S6, q6⟩ := q; exact gone S6 fun _ J7 => ⟨_, _, J7, q6⟩
      | brk => obtain ⟨σ6, H6, S6, q6⟩ := q; exact gone S6 fun _ J7 => ⟨_, _, J7, q6⟩
      | cont => obtain ⟨σ6, H6, S6, q6⟩ := q; exact gone S6 fun _ J7 => ⟨_, _, J7, q6⟩
      | ret v => obtain ⟨v6, σ6, H6, S6, r6, q6⟩ := q; exact gone S6 fun _ J7 => ⟨_, _, _, J7, r6, q6⟩
    · obtain ⟨p1, _⟩ := J.pin p hp
      rw [y] at p1
      have q2 := nb a _ p1 (by rw [hs]; exact nfr)
      rw [fl.2.1] at q2; cases q2
  refine wpAny_Try_except (wpAny_mono ((hb _ (X.pn ++ pins) caught catches PassesOwn.looking).run [] s σ H D (I.toTry _) y) (fun f s1 q => ?_) (fun _ _ z => z))
  cases f with
  | next => obtain ⟨σ1, H1, J, q⟩ := q; exact wpAny_execs_nil ⟨σ1, H1, J.ofTry ok, q⟩
  | brk => obtain ⟨σ1, H1, J, q⟩ := q; exact ⟨σ1, H1, J.ofTry ok, q⟩
  | cont => obtain ⟨σ1, H1, J, q⟩ := q; exact ⟨σ1, H1, J.ofTry ok, q⟩
  | ret v => obtain ⟨v1, σ1, H1, J, r, q⟩ := q; exact ⟨v1, σ1, H1, J.ofTry ok, r, q⟩⟩
end
end Ky
set_option Elab.async false
set_option linter.all false
set_option maxRecDepth 100000
set_option maxHeartbeats 2000000
/-! isinstance and the attributes of a caught error. -/
namespace Ky
open PySem PySem.Spec PyProof.Rows L2 Sx
def KErv (H : Hp) (a D : Addr) (fs : List (Str × V)) : Prop := ∃ dd, H a = some (exv a (.ref D) (some dd)) ∧ H dd = some (.xd fs)
theorem KErv.inst {P : Program} {w : World} {H : Hp} {h : Heap} {a D : Addr} {fs : List (Str × V)} (hok : HOk P w H h) (k : KErv H a D fs) : ∃ (o od : Obj) (mA : Str → Option Value), PySem.W.InstAt h a o D (some od) ∧ (∀ n, PySem.W.lookIn n od = some (mA n)) ∧ ∀ f, RelO (fs.lookup f) (mA f) := by
  obtain ⟨dd, h1, h2⟩ := k
  obtain ⟨⟨o, vs, e1, e2, e3, e4⟩, _, _⟩ := (show ObjOk P w H h a (exv a (.ref D) (some dd)) from hok a _ h1)
  obtain ⟨mA, ns, r⟩ := (show ObjOk P w H h dd (.xd fs) from hok dd _ h2)
  obtain ⟨od, q, hl⟩ := lookIn_ns ns
  exact ⟨o, od, mA, ⟨e1, e2, by unfold PySem.W.notCls; rw [e4], by rw [e3]; exact q⟩, hl, r⟩
def rIsV (K : PySem.W.Frag) : List V → Hp → VK → Prop := fun xs H Q => ∃ (a D : Addr) (fs : List (Str × V)) (c : V) (cv : Value) (b : Bool), xs = [.ref a, c] ∧ KErv H a D fs ∧ ExcC K D ∧ ClsV c cv ∧ PySem.W.kitOne K (.ref D) cv = some b ∧ Q (.bl b) H
theorem call_isV {X : Cx} : CallR X (.builtin "isinstance") (rIsV X.K) := by
  intro pins s σ H xs us Q I r h
  obtain ⟨a, D, fs, c, cv, b, rfl, ke, C, k, e, q⟩ := h
  obtain ⟨u1, u2, rfl, r1, r2⟩ := vals2 r
  obtain rfl : u1 = Value.ref a := r1
  have e2 := k.eq r2
  subst e2
  obtain ⟨ox, od, mA, J, _⟩ := ke.inst I.hok
  obtain ⟨cdD, hcD, _⟩ := PySem.W.any_some C.hd
  exact PySem.W.kia_one (PySem.W.kitx_exc (by rw [hcD]; rfl) C.hg C.hk C.hs C.ha C.hn C.ht C.hm) I.kIn J e (fun z => nomatch z) fun tk => ⟨.bl b, H, I.tok tk, rfl, q⟩
/-- caught.name -/
theorem pe_va {X : Cx} {e : Expr} {te : TE} {pos : Pos} {n : Str} (he : PE X e te) (hb : attributeBase e n X.env (eval e X.env) = eval e X.env := by rfl) :
    PE X (.Attribute e n pos) (fun σ H Q => te σ H fun x H1 => ∃ (a C : Addr) (fs : List (Str × V)) (v : V), x = .ref a ∧ KErv H1 a C fs ∧ XfC X.K C ∧ PySem.W.findIn X.K (.ref C) n = some none ∧ fs.lookup n = some v ∧ Q v H1) := by
  refine ⟨fun pins s σ H Q I h => attr_of hb (thn (he.run pins s σ H _ I h) fun u s1 hh => ?_)⟩
  obtain ⟨x, H1, I1, rx, a, C, fs, v, rfl, ke, T, hno, l, q⟩ := hh
  obtain rfl : u = Value.ref a := rx
  obtain ⟨o, od, mA, J, hl, rel⟩ := ke.inst I1.hok
  obtain ⟨u, hu, ru⟩ := RelO.some_of (v := v) (o := mA n) (by rw [← l]; exact rel n)
  exact HandSPX.exc_get I1.kIn J T.ga T.gg T.exC (PySem.W.findObj_own T.hdC hno rfl (by rw [hl, hu])) (handed_of ru) ⟨v, H1, I1.tok _, ru, q⟩
end Ky
set_option Elab.async false
set_option linter.all false
set_option maxRecDepth 100000
set_option maxHeartbeats 2000000
/-! kept, any_name. -/
namespace Ka
open PySem PySem.Spec PyProof.Rows L2 Sx Rp Dw NdefX Kc Gn GxR Kp Kt Kw Ks Kl
abbrev sKept : Stmt := topS 15
abbrev sAny : Stmt := topS 16
theorem scKe : FnScope ["told"] [] (defScope sKept) := ⟨rfl, rfl, rfl, by decide +kernel, rfl, by decide +kernel, by decide +kernel⟩
theorem scAn : FnScope ["draw", "letters", "way", "word", "k"] ["draw"] (defScope sAny) := ⟨rfl, rfl, rfl, by decide +kernel, rfl, by decide +kernel, by decide +kernel⟩
def toldL : List Nat := (Str.ofString "answer ask call clause copy document draw false give house inner law never node outer program state true wait").cps.toList
theorem split_told : (Txt.split "answer ask call clause copy document draw false give house inner law never node outer program state true wait" " ").map V.str = keptV := by
  have e1 : ("answer ask call clause copy document draw false give house inner law never node outer program state true wait" : Str) = ⟨toldL.toArray⟩ := by decide +kernel
  have e2 : (" " : Str) = (⟨([32] : List Nat).toArray⟩ : Str) := by decide +kernel
  rw [e1, e2]
  have e := SX.split_S (a := toldL) (b := [32]) (by decide) (by decide)
  rw [show Txt.split (⟨toldL.toArray⟩ : Str) (⟨([32] : List Nat).toArray⟩ : Str) = _ from e]
  decide +kernel
/-- small letters -/
def Sm (z : List Nat) : Prop := ∀ c ∈ z, 97 ≤ c ∧ c ≤ 122
theorem kept_sm : ∀ s ∈ keptS, (s.cps.toList.all fun c => decide (97 ≤ c) && decide (c ≤ 122)) = true ∧ s.length ≤ 8 := by decide +kernel
theorem kept_get {i : Nat} {y : V} (h : keptV[i]? = some y) : ∃ z : List Nat, y = .str ⟨z.toArray⟩ ∧ (⟨z.toArray⟩ : Str) ∈ keptS ∧ Sm z ∧ z.length ≤ 8 := by
  unfold keptV at h
  rw [List.getElem?_map] at h
  obtain ⟨s, hs, rfl⟩ := Option.map_eq_some_iff.mp h
  have m := List.mem_of_getElem? hs
  obtain ⟨h1, h2⟩ := kept_sm s m
  refine ⟨s.cps.toList, rfl, m, fun c hc => ?_, h2⟩
  have q := List.all_eq_true.mp h1 c hc
  simpa using q
theorem cut_sub (z : List Nat) (lo hi : Option Int) : ∃ l : List Nat, cutS ⟨z.toArray⟩ lo hi = ⟨l.toArray⟩ ∧ l.length ≤ z.length ∧ ∀ c ∈ l, c ∈ z := by
  refine ⟨_, rfl, ?_, fun c hc => ?_⟩
  · rw [List.length_take, List.length_drop]; simp; omega
  · have q := List.mem_of_mem_drop (List.mem_of_mem_take hc)
    simpa using q
theorem But.trans {d wp : Addr} {H1 H2 H3 : Hp} (a : But d wp H1 H2) (b : But d wp H2 H3) : But d wp H1 H3 := fun x o e h1 h2 => b x o (a x o e h1 h2) h1 h2
theorem but_new {d wp t : Addr} {H : Hp} {o : HO} (nt : H t = none) : But d wp H (upd H t o) := fun x u e _ _ => by rw [upd_ne (fun y => by rw [y, nt] at e; cases e)]; exact e
theorem dr_same {H H' : Hp} {d wp cp : Addr} {n : Nat} (k : ∀ b o, H b = some o → H' b = some o) (D : Dr H d wp cp n) : Dr H' d wp cp n := by
  obtain ⟨ws, cs, r, t, h, b⟩ := D
  exact ⟨ws, cs, r, t, ⟨k _ _ h.dc, k _ _ h.wl, k _ _ h.cl, h.cb, h.cn, h.wn, h.t0, h.nwc⟩, b⟩
theorem dr_new {H : Hp} {d wp cp t : Addr} {n : Nat} {o : HO} (nt : H t = none) (D : Dr H d wp cp n) : Dr (upd H t o) d wp cp n := dr_same (fun b u e => by rw [upd_ne (fun y => by rw [y, nt] at e; cases e)]; exact e) D
theorem dr_le {H : Hp} {d wp cp : Addr} {n m : Nat} (h : n ≤ m) (D : Dr H d wp cp m) : Dr H d wp cp n := by
  obtain ⟨ws, cs, r, t, a, b⟩ := D
  exact ⟨ws, cs, r, t, a, by omega⟩
theorem dr_wp {H : Hp} {d wp cp : Addr} {n : Nat} (D : Dr H d wp cp n) : ∃ o, H wp = some o := by
  obtain ⟨ws, cs, r, t, a, b⟩ := D
  exact ⟨_, a.wl⟩
theorem dr_nwp {H : Hp} {d wp cp t : Addr} {n : Nat} (D : Dr H d wp cp n) (nt : H t = none) : t ≠ wp := fun y => by
  obtain ⟨o, e⟩ := dr_wp D
  rw [y, e] at nt; cases nt
theorem dr_put {H : Hp} {d wp cp L : Addr} {n : Nat} {o : HO} (D : Dr H d wp cp n) (h : L ≠ d ∧ L ≠ wp ∧ L ≠ cp) : Dr (upd H L o) d wp cp n := by
  obtain ⟨ws, cs, r, t, a, b⟩ := D
  exact ⟨ws, cs, r, t, ⟨by rw [upd_ne (Ne.symm h.1)]; exact a.dc, by rw [upd_ne (Ne.symm h.2.1)]; exact a.wl, by rw [upd_ne (Ne.symm h.2.2)]; exact a.cl, a.cb, a.cn, a.wn, a.t0, a.nwc⟩, b⟩
theorem dr_far {H : Hp} {d wp cp L : Addr} {n : Nat} (D : Dr H d wp cp n) (nL : H L = none) : L ≠ d ∧ L ≠ wp ∧ L ≠ cp := by
  obtain ⟨ws, cs, r, t, a, b⟩ := D
  exact ⟨(fun y => by rw [y, a.dc] at nL; cases nL), (fun y => by rw [y, a.wl] at nL; cases nL), (fun y => by rw [y, a.cl] at nL; cases nL)⟩
theorem join_ones : ∀ zs : List Nat, TL.joinL [] (zs.map fun c => [c]) = zs
  | [] => rfl
  | [c] => rfl
  | c :: e :: r => by
    show [c] ++ ([] ++ TL.joinL [] ((e :: r).map fun c => [c])) = _
    rw [join_ones (e :: r)]; rfl
theorem join_signs (zs : List Nat) : Txt.join ("" : Str) (zs.map fun c => (⟨#[c]⟩ : Str)) = ⟨zs.toArray⟩ := by
  have e := SX.join_S [] (zs.map fun c => [c])
  rw [join_ones] at e
  have e2 : ("" : Str) = (⟨([] : List Nat).toArray⟩ : Str) := by decide +kernel
  rw [e2]
  rw [List.map_map] at e
  exact e
def abcL : List Nat := (Str.ofString "abcdefghijklmnopqrstuvwxyz").cps.toList
theorem abc_at {v : Int} (h0 : 0 ≤ v) (h1 : v < 26) : ∃ c, atI abcL v = some c ∧ 97 ≤ c ∧ c ≤ 122 := by
  obtain ⟨j, rfl⟩ := Int.eq_ofNat_of_zero_le h0
  have q : ∀ j : Nat, j < 26 → ∃ c, abcL[j]? = some c ∧ 97 ≤ c ∧ c ≤ 122 := by
    intro j hj
    have e : abcL = (List.range 26).map (· + 97) := by decide +kernel
    refine ⟨j + 97, by rw [e]; simp [hj], by omega, by omega⟩
  obtain ⟨c, e, l⟩ := q j (by omega)
  exact ⟨c, atI_nat e, l⟩
section
variable {P : Program} {w : World} {K : PySem.W.Frag} {mg : Str → Option Value} {base : Heap}
def spKept : Sp := fun vs H Q _ => vs = [] ∧ ∀ p, H p = none → Q (.ref p) (upd H p (.lst keptV))
theorem ok_kept {f : Addr} {fd : FuncData} (F : Fun K "_law_kept" "_law_kept" sKept f fd) : FnOk P w K mg base CX0 1 f fd [] spKept := by
  refine F.ok scKe (fun vs H Q E h => ?_) (fun cdv A outer s H vs Q E hr h => ?_)
  · obtain ⟨rfl, _⟩ := h
    rfl
  · obtain ⟨rfl, k⟩ := h
    refine ⟨_, pss_cons (ps_set (i := 0) scKe.nd rfl (Or.inl rfl) pe_str) (pss_one (ps_ret (pe_split (pv 0) pe_str))), ?_⟩
    refine ⟨_, rfl, ⟨_, rfl⟩, _, " ", rfl, rfl, by decide +kernel, by decide +kernel, fun p np => ?_⟩
    rw [split_told]
    exact k p np
def spAny : Sp := fun vs H Q _ => ∃ (d wp cp : Addr) (n : Nat), vs = [.ref d] ∧ Dr H d wp cp (n + 20) ∧ ∀ (z : List Nat) (H' : Hp), Sm z → z.length ≤ 9 → Dr H' d wp cp n → But d wp H H' → Q (.str ⟨z.toArray⟩) H'
theorem ok_any {f ft fp fk : Addr} {fd td pd kd : FuncData} (F : Fun K "_law_any_name" "_law_any_name" sAny f fd) (ml : mg "len" = none) (mr : mg "range" = none)
    (Ft : FnOk P w K mg base CX0 2 ft td ["draw", "many"] spTake) (mt : mg "_law_take" = some (.ref ft)) (kt : PySem.W.keepIn K (.ref ft) = true) (bt : Binds K td ["draw", "many"] [])
    (Fp : FnOk P w K mg base CX0 3 fp pd ["draw", "some"] spPick) (mp : mg "_law_pick" = some (.ref fp)) (kp : PySem.W.keepIn K (.ref fp) = true) (bp : Binds K pd ["draw", "some"] [])
    (Fk : FnOk P w K mg base CX0 1 fk kd [] spKept) (mk : mg "_law_kept" = some (.ref fk)) (kk : PySem.W.keepIn K (.ref fk) = true) (bk : Binds K kd [] []) : FnOk P w K mg base CX0 4 f fd ["draw"] spAny := by
  refine F.ok scAn (fun vs H Q E h => ?_) (fun cdv A outer s H vs Q E hr h => ?_)
  · obtain ⟨d, wp, cp, n, rfl, _⟩ := h
    rfl
  · obtain ⟨d, wp, cp, n, rfl, D, k⟩ := h
    refine ⟨_, pss_cons (ps_asg (pe_tup (pa_cons pe_str (pa_cons (pe_call Ft (hr.mono (by decide)) rfl mt kt bt .nil pass0 (pa_cons (pv 0) (pa_cons pe_int pa_nil))) pa_nil))) (pg_tup rfl (pgs_cons (pg_name (i := 1) scAn.nd rfl (by first | exact Or.inl rfl | exact Or.inr rfl)) (pgs_cons (pg_name (i := 2) scAn.nd rfl (by first | exact Or.inl rfl | exact Or.inr rfl)) pgs_nil))))
      (pss_cons (ps_if (pt_cmpR op_lt (pv 2) pe_int (nomark _))
        (pss_cons (ps_set (i := 3) scAn.nd rfl (Or.inl rfl) (pe_call Fp hr rfl mp kp bp .nil pass0 (pa_cons (pv 0) (pa_cons (pe_call0 Fk (hr.mono (by decide)) rfl mk kk bk .nil pass0) pa_nil))))
        (pss_one (ps_ret (pe_ifExp (PW.pt (pw_or (pt_cmpR op_eq (pv 2) pe_int (nomark _)) (pw_or1 (pt_cmpR op_eq (pe_callB call_len_str (by rfl) ml PySem.boot_len (pa_cons (pv 3) pa_nil)) pe_int (nomark _)))))
          (pe_slice sl_str (pv 3) po_none (po_some (pe_un un_neg pe_int))) (pe_op op_add_str (pv 3) (pe_ix ix_str (pv 1) (pe_call Ft (hr.mono (by decide)) rfl mt kt bt .nil pass0 (pa_cons (pv 0) (pa_cons pe_int pa_nil))) (fun _ _ => rfl)))))))
        pss_nil)
      (pss_one (ps_ret (pe_join pe_str (pe_lc (own := [("k", 4)]) (g := gName 4) (tt := tYes) (te := tOp rIxS (tVar 1) (tCall spTake [] E0 (tCons (tVar 0) (tCons (tC (.int 26)) tNil)))) (by rfl) scAn.nd
        (pi_range1 (by rfl) mr (pa_cons (pe_call Fp hr rfl mp kp bp .nil pass0 (pa_cons (pv 0) (pa_cons (pe_lst (pa_cons pe_int (pa_cons pe_int (pa_cons pe_int (pa_cons pe_int (pa_cons pe_int (pa_cons pe_int (pa_cons pe_int (pa_cons pe_int (pa_cons pe_int (pa_cons pe_int (pa_cons pe_int pa_nil)))))))))))) pa_nil))) pa_nil)) (blkOk_by (own := [("k", 4)]) (N := ["draw", "letters", "way", "word", "k"]) (sc := defScope sAny) (by decide +kernel)) (fun _ _ _ _ _ => pg_name (i := 4) scAn.nd rfl (Or.inl rfl)) (fun _ _ _ _ _ => pts_nil)
        (fun _ _ _ _ _ => pe_ix ix_str (pv 1) (pe_call Ft (hr.mono (by decide)) rfl mt kt bt .nil pass0 (pa_cons (pv 0) (pa_cons pe_int pa_nil))) (fun _ _ => rfl))))))), ?_⟩
    refine ⟨_, rfl, d, wp, cp, n + 19, 12, rfl, D, by decide, by decide, fun v H1 v0 v1 D1 B1 => ⟨(show 2 ≤ sizeLine by decide), fun t nt => ⟨t, _, rfl, SqT.of upd_same, rfl, _, _, rfl, _, _, rfl, rfl, ?_⟩⟩⟩
    have D2 := dr_new (o := .tup [.str "abcdefghijklmnopqrstuvwxyz", .int v]) nt D1
    have B2 := But.trans B1 (but_new (o := .tup [.str "abcdefghijklmnopqrstuvwxyz", .int v]) nt)
    generalize upd H1 t (.tup [.str "abcdefghijklmnopqrstuvwxyz", .int v]) = H2 at D2 B2
    refine ⟨_, rfl, v, 2, rfl, rfl, _, rfl, ?_⟩
    by_cases v2 : v < 2
    · refine iteT' (decide_eq_true v2) ⟨_, rfl, rfl, fun p np => ⟨d, wp, cp, p, n + 18, keptV, rfl, dr_new np D2, upd_same, dr_nwp D2 np, by decide +kernel, by decide +kernel, fun i y H4 hy D4 B4 => ?_⟩⟩
      have B5 := But.trans (But.trans B2 (but_new (o := .lst keptV) np)) B4
      obtain ⟨z, rfl, _, sm, zl⟩ := kept_get hy
      have lz : (⟨z.toArray⟩ : Str).length ≤ sizeLine := by rw [len_arr]; exact Nat.le_trans zl (by decide)
      have less : ∀ {H5}, H5 = H4 → Q (.str (cutS ⟨z.toArray⟩ none (some (-1)))) H5 := fun {H5} e => by
        obtain ⟨l, el, l1, l2⟩ := cut_sub z none (some (-1))
        rw [el, e]
        exact k l H4 (fun c hc => sm c (l2 c hc)) (by omega) (dr_le (by omega) D4) B5
      refine ⟨_, rfl, rfl, _, rfl, ?_⟩
      by_cases ve : v = 0
      · exact iteT' (by subst ve; decide) ⟨_, rfl, 1, rfl, -1, rfl, ⟨z.toArray⟩, rfl, lz, less rfl⟩
      · refine iteF' (decide_eq_false fun y => ve (by injection y)) ⟨_, rfl, ⟨z.toArray⟩, rfl, lz, rfl, _, rfl, ?_⟩
        show if (decide (V.int ((⟨z.toArray⟩ : Str).length : Int) = V.int 8)) = true then _ else _
        by_cases e8 : ((⟨z.toArray⟩ : Str).length : Int) = 8
        · exact iteT' (decide_eq_true (congrArg V.int e8)) ⟨_, rfl, 1, rfl, -1, rfl, ⟨z.toArray⟩, rfl, lz, less rfl⟩
        · refine iteF' (decide_eq_false fun y => e8 (by injection y)) ⟨_, rfl, _, rfl, _, rfl, d, wp, cp, n + 17, 26, rfl, D4, by decide, by decide, fun u H5 u0 u1 D5 B6 => ?_⟩
          obtain ⟨c, ec, c1, c2⟩ := abc_at u0 u1
          refine ⟨"abcdefghijklmnopqrstuvwxyz", u, c, rfl, rfl, by decide +kernel, ec, _, _, rfl, rfl, ?_, ?_⟩
          · rw [len_arr, sizeLine_eq]; show z.length + 1 ≤ _; omega
          · have ea : ((⟨z.toArray⟩ : Str) ++ ⟨#[c]⟩) = ⟨(z ++ [c]).toArray⟩ := congrArg Str.mk (by simp)
            rw [ea]
            refine k (z ++ [c]) H5 (fun x hx => ?_) (by rw [List.length_append]; show z.length + 1 ≤ 9; omega) (dr_le (by omega) D5) (But.trans B5 B6)
            rcases List.mem_append.mp hx with h | h
            · exact sm x h
            · rw [List.mem_singleton.mp h]; exact ⟨c1, c2⟩
    · refine iteF' (decide_eq_false v2) ?_
      refine ⟨⟨_, rfl⟩, _, rfl, (show 11 ≤ sizeLine by decide), fun q nq => ⟨d, wp, cp, q, n + 18, _, rfl, dr_new nq D2, upd_same, dr_nwp D2 nq, (show 0 < 11 by decide), (show 11 < 1000000 by decide), fun i y H4 hy D4 B4 => ?_⟩⟩
      have B5 := But.trans (But.trans B2 (but_new nq)) B4
      obtain ⟨j, rfl, j1, j8⟩ : ∃ j : Nat, y = .int (j : Int) ∧ 1 ≤ j ∧ j ≤ 8 := by
        have m := List.mem_of_getElem? hy
        simp only [List.mem_cons, List.not_mem_nil, or_false] at m
        rcases m with rfl | rfl | rfl | rfl | rfl | rfl | rfl | rfl | rfl | rfl | rfl
        · exact ⟨1, rfl, by decide, by decide⟩
        · exact ⟨1, rfl, by decide, by decide⟩
        · exact ⟨1, rfl, by decide, by decide⟩
        · exact ⟨2, rfl, by decide, by decide⟩
        · exact ⟨2, rfl, by decide, by decide⟩
        · exact ⟨3, rfl, by decide, by decide⟩
        · exact ⟨4, rfl, by decide, by decide⟩
        · exact ⟨5, rfl, by decide, by decide⟩
        · exact ⟨6, rfl, by decide, by decide⟩
        · exact ⟨7, rfl, by decide, by decide⟩
        · exact ⟨8, rfl, by decide, by decide⟩
      refine ⟨(j : Int), rfl, by omega, by omega, fun L nL => ?_⟩
      have far := dr_far D4 nL
      refine lc_range (lo := 0) (n := j) (fun i G => ∃ zs : List Nat, G L = some (.lst ((zs.map fun c => (⟨#[c]⟩ : Str)).map V.str)) ∧ zs.length = i ∧ Sm zs ∧ Dr G d wp cp (n + 18 - i) ∧ But d wp H4 G) ⟨[], upd_same, rfl, (fun c hc => nomatch hc), dr_put D4 far, but_new nL⟩ (fun i G hi h => ?_) (fun G h => ?_)
      · obtain ⟨zs, hL, lz, sm, DG, BG⟩ := h
        refine ⟨rfl, _, rfl, _, rfl, d, wp, cp, n + 17 - i, 26, rfl, dr_le (by omega) DG, by decide, by decide, fun u H5 u0 u1 D5 B6 => ?_⟩
        obtain ⟨c, ec, c1, c2⟩ := abc_at u0 u1
        refine ⟨"abcdefghijklmnopqrstuvwxyz", u, c, rfl, rfl, by decide +kernel, ec, _, B6 _ _ hL far.1 far.2.1, by rw [List.length_map, List.length_map, lz, sizeLine_eq]; omega, zs ++ [c], ?_, by rw [List.length_append, lz]; rfl, fun x hx => ?_, dr_put (dr_le (by omega) D5) far, fun b o e h1 h2 => ?_⟩
        · rw [upd_same, List.map_append, List.map_append]; rfl
        · rcases List.mem_append.mp hx with h | h
          · exact sm x h
          · rw [List.mem_singleton.mp h]; exact ⟨c1, c2⟩
        · rw [upd_ne (fun y => by rw [y, nL] at e; cases e)]
          exact B6 b o (BG b o e h1 h2) h1 h2
      · obtain ⟨zs, hL, lz, sm, DG, BG⟩ := h
        refine ⟨"", L, zs.map fun c => (⟨#[c]⟩ : Str), rfl, rfl, .inl (SqL.of hL), ?_, ?_⟩
        · rw [List.length_map, lz]
          have e : ((zs.map fun c => (⟨#[c]⟩ : Str)).map (·.length)).sum = zs.length := by
            clear hL lz sm DG BG
            induction zs with
            | nil => rfl
            | cons c r ih => rw [List.map_cons, List.map_cons, List.sum_cons, ih]; show 1 + r.length = r.length + 1; omega
          rw [e, lz, show ("" : Str).length = 0 by decide +kernel]; omega
        · rw [join_signs]
          exact k zs G sm (by omega) (dr_le (by omega) DG) (But.trans B5 BG)
end
end Ka
set_option Elab.async false
set_option linter.all false
set_option maxRecDepth 100000
set_option maxHeartbeats 2000000
/-! piece. -/
namespace Kc2
open PySem PySem.Spec PyProof.Rows L2 Sx Rp Dw NdefX Kc Gn GxR Kp Kt Kw Ks Kl Ka
abbrev sPiece : Stmt := topS 19
theorem scPi : FnScope ["draw", "signs", "way"] ["draw"] (defScope sPiece) := ⟨rfl, rfl, rfl, by decide +kernel, rfl, by decide +kernel, by decide +kernel⟩
def sgnS : Str := " !\"#$&'()*+,-./0123456789:;<=>?@ABCDEFGHIJKLMNOPQRSTUVWXYZ[\\]^_`abcdefghijklmnopqrstuvwxyz{|}~"
def Sg (z : List Nat) : Prop := ∀ c ∈ z, sgn c = true
theorem sm_sg {z : List Nat} (h : Sm z) : Sg z := fun c hc => by
  have q : ((List.range 123).all fun c => decide (c < 97) || sgn c) = true := by decide +kernel
  obtain ⟨h1, h2⟩ := h c hc
  have e := List.all_eq_true.mp q c (List.mem_range.mpr (by omega))
  rw [decide_eq_false (by omega : ¬ c < 97), Bool.false_or] at e
  exact e
theorem sgn_at {v : Int} (h0 : 0 ≤ v) (h1 : v < (sgnS.length : Int)) : ∃ c, atI sgnS.cps.toList v = some c ∧ sgn c = true := by
  obtain ⟨j, rfl⟩ := Int.eq_ofNat_of_zero_le h0
  have hj : j < sgnS.cps.toList.length := by rw [Array.length_toList]; exact Int.ofNat_lt.mp h1
  have q : (sgnS.cps.toList.all sgn) = true := by decide +kernel
  exact ⟨_, atI_nat (List.getElem?_eq_getElem hj), List.all_eq_true.mp q _ (List.getElem_mem hj)⟩
def fewS : List Str := ([" ", " ", "\n", "  ", " \n", ":", ",", ": "] : List String).map Str.ofString
theorem few_get {i : Nat} {y : V} (h : (fewS.map V.str)[i]? = some y) : ∃ z : List Nat, y = .str ⟨z.toArray⟩ ∧ Sg z ∧ z.length ≤ 2 := by
  rw [List.getElem?_map] at h
  obtain ⟨s, hs, rfl⟩ := Option.map_eq_some_iff.mp h
  have q : ∀ s ∈ fewS, (s.cps.toList.all sgn) = true ∧ s.cps.toList.length ≤ 2 := by decide +kernel
  obtain ⟨h1, h2⟩ := q s (List.mem_of_getElem? hs)
  exact ⟨s.cps.toList, rfl, fun c hc => List.all_eq_true.mp h1 c hc, h2⟩
section
variable {P : Program} {w : World} {K : PySem.W.Frag} {mg : Str → Option Value} {base : Heap}
def spPiece : Sp := fun vs H Q _ => ∃ (d wp cp : Addr) (n : Nat), vs = [.ref d] ∧ Dr H d wp cp (n + 30) ∧ ∀ (z : List Nat) (H' : Hp), Sg z → z.length ≤ 9 → Dr H' d wp cp n → But d wp H H' → Q (.str ⟨z.toArray⟩) H'
theorem ok_piece {f ft fp fk fa : Addr} {fd td pd kd ad : FuncData} (F : Fun K "_law_piece" "_law_piece" sPiece f fd) (ml : mg "len" = none)
    (Ft : FnOk P w K mg base CX0 2 ft td ["draw", "many"] spTake) (mt : mg "_law_take" = some (.ref ft)) (kt : PySem.W.keepIn K (.ref ft) = true) (bt : Binds K td ["draw", "many"] [])
    (Fp : FnOk P w K mg base CX0 3 fp pd ["draw", "some"] spPick) (mp : mg "_law_pick" = some (.ref fp)) (kp : PySem.W.keepIn K (.ref fp) = true) (bp : Binds K pd ["draw", "some"] [])
    (Fk : FnOk P w K mg base CX0 1 fk kd [] spKept) (mk : mg "_law_kept" = some (.ref fk)) (kk : PySem.W.keepIn K (.ref fk) = true) (bk : Binds K kd [] [])
    (Fa : FnOk P w K mg base CX0 4 fa ad ["draw"] spAny) (ma : mg "_law_any_name" = some (.ref fa)) (ka : PySem.W.keepIn K (.ref fa) = true) (ba : Binds K ad ["draw"] []) : FnOk P w K mg base CX0 5 f fd ["draw"] spPiece := by
  refine F.ok scPi (fun vs H Q E h => ?_) (fun cdv A outer s H vs Q E hr h => ?_)
  · obtain ⟨d, wp, cp, n, rfl, _⟩ := h
    rfl
  · obtain ⟨d, wp, cp, n, rfl, D, k⟩ := h
    refine ⟨_, pss_cons (ps_set (i := 1) scPi.nd rfl (Or.inl rfl) pe_str)
      (pss_cons (ps_set (i := 2) scPi.nd rfl (Or.inl rfl) (pe_call Ft (hr.mono (by decide)) rfl mt kt bt .nil pass0 (pa_cons (pv 0) (pa_cons pe_int pa_nil))))
      (pss_cons (ps_if (pt_cmpR op_lt (pv 2) pe_int (nomark _)) (pss_one (ps_ret (pe_call Fa hr rfl ma ka ba .nil pass0 (pa_cons (pv 0) pa_nil)))) pss_nil)
      (pss_cons (ps_if (pt_cmpR op_lt (pv 2) pe_int (nomark _)) (pss_one (ps_ret (pe_call Fp (hr.mono (by decide)) rfl mp kp bp .nil pass0 (pa_cons (pv 0) (pa_cons (pe_lst (pa_cons pe_str (pa_cons pe_str (pa_cons pe_str (pa_cons pe_str (pa_cons pe_str (pa_cons pe_str (pa_cons pe_str (pa_cons pe_str pa_nil))))))))) pa_nil))))) pss_nil)
      (pss_cons (ps_if (pt_cmpR op_eq (pv 2) pe_int (nomark _)) (pss_one (ps_ret (pe_call Fp (hr.mono (by decide)) rfl mp kp bp .nil pass0 (pa_cons (pv 0) (pa_cons (pe_call0 Fk (hr.mono (by decide)) rfl mk kk bk .nil pass0) pa_nil))))) pss_nil)
      (pss_one (ps_ret (pe_op op_add_str (pe_ix ix_str (pv 1) (pe_call Ft (hr.mono (by decide)) rfl mt kt bt .nil pass0 (pa_cons (pv 0) (pa_cons (pe_callB call_len_str (by rfl) ml PySem.boot_len (pa_cons (pv 1) pa_nil)) pa_nil))) (fun _ _ => rfl))
        (pe_ifExp (pt_cmpR op_eq (pv 2) pe_int (nomark _)) (pe_ix ix_str (pv 1) (pe_call Ft (hr.mono (by decide)) rfl mt kt bt .nil pass0 (pa_cons (pv 0) (pa_cons (pe_callB call_len_str (by rfl) ml PySem.boot_len (pa_cons (pv 1) pa_nil)) pa_nil))) (fun _ _ => rfl)) pe_str)))))))), ?_⟩
    refine ⟨_, rfl, d, wp, cp, n + 29, 9, rfl, D, by decide, by decide, fun v H1 v0 v1 D1 B1 => ?_⟩
    refine ⟨_, rfl, v, 2, rfl, rfl, _, rfl, ?_⟩
    by_cases v2 : v < 2
    · exact iteT' (decide_eq_true v2) ⟨_, rfl, d, wp, cp, n + 9, rfl, D1, fun z H2 sm zl D2 B2 => k z H2 (sm_sg sm) zl (dr_le (by omega) D2) (But.trans B1 B2)⟩
    · refine iteF' (decide_eq_false v2) ⟨_, rfl, v, 5, rfl, rfl, _, rfl, ?_⟩
      by_cases v5 : v < 5
      · refine iteT' (decide_eq_true v5) ⟨_, rfl, (show 8 ≤ sizeLine by decide), fun p np => ⟨d, wp, cp, p, n + 28, fewS.map V.str, rfl, dr_new np D1, upd_same, dr_nwp D1 np, by decide, by decide, fun i y H2 hy D2 B2 => ?_⟩⟩
        obtain ⟨z, rfl, sz, zl⟩ := few_get hy
        exact k z H2 sz (by omega) (dr_le (by omega) D2) (But.trans B1 (But.trans (but_new np) B2))
      · refine iteF' (decide_eq_false v5) ⟨_, rfl, rfl, _, rfl, ?_⟩
        by_cases v6 : v = 5
        · refine iteT' (by subst v6; decide) ⟨_, rfl, rfl, fun p np => ⟨d, wp, cp, p, n + 28, keptV, rfl, dr_new np D1, upd_same, dr_nwp D1 np, by decide +kernel, by decide +kernel, fun i y H2 hy D2 B2 => ?_⟩⟩
          obtain ⟨z, rfl, _, sm, zl⟩ := kept_get hy
          exact k z H2 (sm_sg sm) (by omega) (dr_le (by omega) D2) (But.trans B1 (But.trans (but_new np) B2))
        · refine iteF' (decide_eq_false fun y => v6 (by injection y)) ?_
          refine ⟨_, rfl, _, rfl, _, rfl, sgnS, rfl, by decide +kernel, d, wp, cp, n + 28, (sgnS.length : Int), rfl, D1, by decide +kernel, by decide +kernel, fun u H2 u0 u1 D2 B2 => ?_⟩
          obtain ⟨c, ec, gc⟩ := sgn_at u0 u1
          refine ⟨sgnS, u, c, rfl, rfl, by decide +kernel, ec, ?_⟩
          refine ⟨_, rfl, rfl, _, rfl, ?_⟩
          have one : ∀ x ∈ [c], sgn x = true := fun x hx => by rw [List.mem_singleton.mp hx]; exact gc
          by_cases w6 : v = 6
          · refine iteT' (by subst w6; decide) ?_
            refine ⟨_, rfl, _, rfl, _, rfl, sgnS, rfl, by decide +kernel, d, wp, cp, n + 27, (sgnS.length : Int), rfl, D2, by decide +kernel, by decide +kernel, fun u' H3 u0' u1' D3 B3 => ?_⟩
            obtain ⟨c', ec', gc'⟩ := sgn_at u0' u1'
            refine ⟨sgnS, u', c', rfl, rfl, by decide +kernel, ec', _, _, rfl, rfl, (show 2 ≤ sizeLine by decide), ?_⟩
            exact k [c, c'] H3 (fun x hx => by
              rcases List.mem_cons.mp hx with rfl | hx
              · exact gc
              · rw [List.mem_singleton.mp hx]; exact gc') (show 2 ≤ 9 by decide) (dr_le (by omega) D3) (But.trans B1 (But.trans B2 B3))
          · refine iteF' (decide_eq_false fun y => w6 (by injection y)) ⟨_, _, rfl, rfl, (show 1 ≤ sizeLine by decide), ?_⟩
            exact k [c] H2 one (show 1 ≤ 9 by decide) (dr_le (by omega) D2) (But.trans B1 B2)
end
end Kc2
set_option Elab.async false
set_option linter.all false
set_option maxRecDepth 100000
set_option maxHeartbeats 4000000
/-! The class BadText, its __init__. -/
namespace Kb
open PySem PySem.Spec PyProof.Rows L2 Sx Rp Dw NdefX Kw
abbrev tailOf (PE : Addr) : List Value := .ref PE :: PySem.HandSPX.veTail
structure ErrC (K : PySem.W.Frag) (PE C : Addr) : Prop where
  T : OexC K C
  X : ExcC K C
  F : XfC K C
  cls : (PySem.W.clsIn K C).isSome = true
  mro : ∀ v : Value, PySem.W.mroIn K C v = some ((Value.ref C :: tailOf PE).contains v)
def shapeB (K : PySem.W.Frag) (PE C : Addr) : Bool := match K.lookup C with
  | some ⟨.type "type", _, .cls cd, sl⟩ => (match sl.toList with
    | [_, _, _, _, some (.builtin n), _] => n == "ValueError.__new__" && (!cd.hasDel && (cd.hasDict && cd.mro == (Value.ref C :: tailOf PE)))
    | _ => false)
  | _ => false
theorem shapeB_ok {K : PySem.W.Frag} {PE C : Addr} (h : shapeB K PE C = true) : ∃ nm q N bs sn sub ab col dd k0 k1 k2 k3 k5, K.lookup C = some (excClassObj nm q C N bs (tailOf PE) true sn sub ab col dd k0 k1 k2 k3 k5 "ValueError.__new__") := by
  unfold shapeB at h
  split at h
  · rename_i dd cd sl ho
    split at h
    · rename_i k0 k1 k2 k3 n k5 hs
      simp only [Bool.and_eq_true, beq_iff_eq, Bool.not_eq_true'] at h
      obtain ⟨rfl, h2, h3, h4⟩ := h
      obtain ⟨nm, bs, mro, ns, qn, hd, sn, sub, ab, col, del⟩ := cd
      dsimp only at h2 h3 h4
      subst h2 h3 h4
      obtain ⟨l⟩ := sl
      simp only at hs
      subst hs
      exact ⟨_, _, _, _, _, _, _, _, _, _, _, _, _, _, ho⟩
    · cases h
  · cases h
def errB (K : PySem.W.Frag) (PE C : Addr) : Bool := shapeB K PE C && (decide (PySem.W.findIn K (.ref C) "__setattr__" = some (some (.builtin "object.__setattr__"))) && (PySem.W.keepIn K (.ref C) && (xfB K C &&
  (decide (PySem.W.findIn K (.ref C) "__class__" = some (some (.builtin "object.__class__"))) && (decide (PySem.W.specialIn K (.builtin "object.__class__") "__get__" = some (some (.builtin "getset_descriptor.__get__"))) && decide (PySem.W.takesIn K (.builtin "object.__class__") = some true))))))
theorem errB_ok {K : PySem.W.Frag} {PE C : Addr} (h : errB K PE C = true) : ErrC K PE C := by
  unfold errB at h
  simp only [Bool.and_eq_true, decide_eq_true_eq] at h
  obtain ⟨h1, h2, h3, h4, h5, h6, h7⟩ := h
  have F := xfB_ok h4
  obtain ⟨nm, q, N, bs, sn, sub, ab, col, dd, k0, k1, k2, k3, k5, e⟩ := shapeB_ok h1
  have ec : PySem.W.clsIn K C = some { name := nm, bases := bs, mro := .ref C :: tailOf PE, ns := N, qualname := q, hasDict := true, slotNames := sn, subclasses := sub, abstract := ab, collection := col, hasDel := false } := by unfold PySem.W.clsIn; rw [e]
  have em : ∀ v : Value, PySem.W.mroIn K C v = some ((Value.ref C :: tailOf PE).contains v) := fun v => by unfold PySem.W.mroIn; rw [ec]; rfl
  have et : PySem.W.typeIn K (.ref C) = some (.type "type") := by show (K.lookup C).map (·.cls) = _; rw [e]; rfl
  exact ⟨⟨⟨nm, q, N, bs, tailOf PE, sn, sub, ab, col, dd, k0, k1, k2, k3, k5, e, (show PySem.HandSPX.refsVE PySem.HandSPX.veTail = true by decide)⟩, h2, F.exC, et, h3⟩, ⟨F.ga, F.gg, F.exC, F.hdC, h5, h6, h7, by rw [em]; simp [tailOf]⟩, F, by rw [ec]; rfl, em⟩
theorem kit_own {K : PySem.W.Frag} {PE C D : Addr} (h1 : ErrC K PE C) (h2 : ErrC K PE D) (hp : D ≠ PE) : PySem.W.kitOne K (.ref C) (.ref D) = some (decide (C = D)) := by
  unfold PySem.W.kitOne
  by_cases e : C = D
  · rw [if_pos (by rw [e]; exact beq_self_eq_true _), decide_eq_true e]
  · rw [if_neg (fun z => e (Value.ref.inj (beq_iff_eq.mp z))), decide_eq_false e]
    show (if ((PySem.W.clsIn K D).isSome && PySem.W.typeIn K (.ref D) == some (.type "type")) = true then PySem.W.subIn K (.ref C) (.ref D) else none) = _
    rw [if_pos (by rw [h2.cls, h2.T.tyC]; rfl)]
    show PySem.W.mroIn K C (.ref D) = _
    rw [h1.mro]
    have : (Value.ref C :: tailOf PE).contains (.ref D) = false := by
      simp only [tailOf, List.contains_cons, Bool.or_eq_false_iff]
      refine ⟨?_, ?_, beq_eq_false_iff_ne.mpr (fun z => nomatch z), beq_eq_false_iff_ne.mpr (fun z => nomatch z), beq_eq_false_iff_ne.mpr (fun z => nomatch z), beq_eq_false_iff_ne.mpr (fun z => nomatch z), rfl⟩
      · exact beq_eq_false_iff_ne.mpr fun z => e (Value.ref.inj z).symm
      · exact beq_eq_false_iff_ne.mpr fun z => hp (Value.ref.inj z)
    rw [this]
section
variable {P : Program} {w : World} {K : PySem.W.Frag} {mg : Str → Option Value} {base : Heap} {PE C : Addr}
theorem cells1 {cc : Addr} {cl : Value} {cld : Option Addr} {v : Option Value} {csl : Array (Option Value)} (hc : K.lookup cc = some ⟨cl, cld, .cell v, csl⟩) (A : Around) (outer : List Env) (s : Shared) (H : Hp) (e0 : Env0 P w K mg base A outer s H) :
    CellsAt [(("__class__" : Str), cc)] ["__class__"] [none] s.heap H := by
  obtain ⟨h1, h2⟩ := e0.bs cc _ (e0.mod.kin _ _ hc)
  have one : ∀ y c, ([(("__class__" : Str), cc)] : List (Str × Addr)).lookup y = some c → y = "__class__" ∧ c = cc := fun y c e => by
    simp only [List.lookup] at e
    split at e
    · rename_i z
      exact ⟨beq_iff_eq.mp z, (Option.some.inj e).symm⟩
    · cases e
  refine ⟨rfl, fun y c e => ?_, fun x y c e1 e2 => (one x c e1).1.trans (one y c e2).1.symm, fun i y e => ?_⟩
  · obtain ⟨_, rfl⟩ := one y c e
    exact ⟨h2, v, _, h1, rfl⟩
  · cases i with
    | zero =>
      obtain rfl : ("__class__" : Str) = y := Option.some.inj e
      exact ⟨cc, by simp [List.lookup], fun v z => nomatch (show (some (none : Option V)) = some (some v) from z)⟩
    | succ i => exact nomatch (show (none : Option Str) = some y from by simpa using e)
/-- what the top has left of an __init__ that says super().__init__ -/
structure InitF (P : Program) (K : PySem.W.Frag) (st : Stmt) (qual : Str) (C fI cc c : Addr) (fd : FuncData) : Prop where
  lk : ∃ oc od osl doc pm ctv, fd = (⟨"__init__", qual, defArgs st, defBody st, defScope st, [("__class__", cc)], c⟩ : NF).fd doc pm ctv ∧ K.lookup fI = some ⟨oc, od, .func fd, osl⟩
  cd : PySem.W.codeIn K (.ref c) qual = true
  cell : ∃ cl cld csl, K.lookup cc = some ⟨cl, cld, .cell (some (.ref C)), csl⟩
  file : ∃ ccl cdd vs ccs x tf, K.lookup c = some ⟨ccl, cdd, .fields vs, ccs⟩ ∧ vs[2]? = some (.str x tf) ∧ ((P.main.file : Str) == x) = true
  ini : PySem.W.findIn K (.ref C) "__init__" = some (some (.ref fI))
  ty : PySem.W.typeIn K (.ref fI) = some (.type "function")
  sup : PySem.W.ks_superIn K C C "__init__" = some (some (.builtin "ValueError.__init__"))
theorem ok_badtext {fI cc c : Addr} {fd : FuncData} (E : ErrC K PE C) (I0 : InitF P K (inClass (topS 2) 0) "BadText.__init__" C fI cc c fd) (ms : mg "super" = none) (ma0 : PySem.W.findIn K (.ref C) "line" = some none) (ma1 : PySem.W.findIn K (.ref C) "column" = some none) (ma2 : PySem.W.findIn K (.ref C) "wanted" = some none) (ho : PySem.W.nsIn K cStatics "thirdparty.any" = some none) (ht : (P.main.scope.names.lookup ("super" : Str)).isSome = false) :
    FnOk P w K mg base CX0 1 fI fd ["self", "line", "column", "wanted"] (spInit C ["line", "column", "wanted"]) := by
  obtain ⟨⟨oc, od, osl, doc, pm, ctv, rfl, lk⟩, cd, ⟨cl, cld, csl, cell⟩, ⟨ccl, cdd, vs, ccs, x, tf, hc1, hc2, hc3⟩, ini, ty, sup⟩ := I0
  obtain ⟨cdD, hD⟩ := Option.isSome_iff_exists.mp E.cls
  refine fn_first (N := ["self", "line", "column", "wanted", "__class__"]) (fr := ["__class__"]) (ws := [none]) (st := (defBody (inClass (topS 2) 0)).getD 0 (.Pass ⟨0, 0, 0, 0⟩)) (rest := (defBody (inClass (topS 2) 0)).drop 1) rfl lk cd (nscope_by (sc := defScope (inClass (topS 2) 0)) (by decide +kernel)) (cells1 cell) (fun vs H Q E h => ?_) (fun A outer s H vs Q Ex hr h s1 I => ?_) (fun A outer s H vs Q Ex hr h => ?_)
  · obtain ⟨a, ws, rfl, e, _⟩ := h
    rw [List.length_cons, e]; rfl
  · obtain ⟨a, ws, rfl, e, ha, _⟩ := h
    exact super_init (D := C) I rfl rfl rfl rfl lk rfl rfl rfl rfl rfl hc1 hc2 hc3 ht cell hD (by show PySem.W.mroIn K C _ = _; rw [E.mro]; simp) ms ho sup (by show PySem.W.mroIn K C _ = _; rw [E.mro]; rfl) E.T ha rfl rfl rfl rfl
  · obtain ⟨a, ws, rfl, e, ha, k⟩ := h
    match ws, e with
    | [y1, y2, y3], _ =>
      refine ⟨_, pss_cons (ps_ost (pv 0) (pv 1) (by rfl)) (pss_cons (ps_ost (pv 0) (pv 2) (by rfl)) (pss_one (ps_ost (pv 0) (pv 3) (by rfl)))), ?_⟩
      refine ⟨_, rfl, _, rfl, a, C, rfl, E.T, ma0, .inl ⟨ha, fun dx nd ne => ?_⟩⟩
      refine ⟨_, rfl, _, rfl, a, C, rfl, E.T, ma1, .inr ⟨dx, [("line", y1)], upd_same, by rw [upd_ne ne, upd_same], (show 1 ≤ 900 by decide), ?_⟩⟩
      refine ⟨_, rfl, _, rfl, a, C, rfl, E.T, ma2, .inr ⟨dx, [("column", y2), ("line", y1)], by rw [upd_ne ne.symm, upd_same], upd_same, (show 2 ≤ 900 by decide), ?_⟩⟩
      exact k dx _ nd (fun b o z n => by rw [upd_ne (ne_of_none z nd), upd_ne (ne_of_none z nd), upd_ne n, upd_ne (ne_of_none z nd)]; exact z) (by rw [upd_ne ne.symm, upd_ne ne.symm, upd_same]) (by rw [upd_same]; rfl)
end
end Kb
set_option Elab.async false
set_option linter.all false
set_option maxRecDepth 100000
set_option maxHeartbeats 2000000
/-! is_told_name. -/
namespace Kn
open PySem PySem.Spec PyProof.Rows L2 Sx Rp Dw NdefX Kc Gn GxR Kp Kt Kw Ks Kl Ka Kc2
theorem str_ok {z : List Nat} (h : ∀ c ∈ z, c < 127) : PyData.strOk ⟨z.toArray⟩ = true := by
  simp [PyData.strOk]
  intro c hc
  have := h c hc
  omega
theorem all_shaped {l : List PyData} (h : ∀ d ∈ l, d.canLay0 = true ∧ d.depth ≤ 2) : SeqAt.shaped (.list l) = true := by
  have q : PyData.canLayAll0 l = true ∧ PyData.depthAll l ≤ 2 := by
    induction l with
    | nil => exact ⟨rfl, Nat.zero_le _⟩
    | cons d r ih =>
      obtain ⟨a, b⟩ := ih fun x hx => h x (List.mem_cons_of_mem _ hx)
      obtain ⟨c, e⟩ := h d List.mem_cons_self
      simp only [PyData.canLayAll0, PyData.depthAll, Bool.and_eq_true]
      exact ⟨⟨c, a⟩, Nat.max_le.mpr ⟨e, b⟩⟩
  refine Bool.and_eq_true_iff.mpr ⟨by simpa [PyData.canLay0] using q.1, decide_eq_true ?_⟩
  have e : (PyData.list l).depth = PyData.depthAll l + 1 := by simp [PyData.depth]
  have q2 := q.2
  rw [e]; omega
def sigD (z : List Nat) : List PyData := z.map fun c => PyData.str ⟨#[c]⟩
theorem sig_shaped {z : List Nat} (h : ∀ c ∈ z, c < 127) : SeqAt.shaped (.list (sigD z)) = true := all_shaped fun d hd => by
  obtain ⟨c, hc, rfl⟩ := List.mem_map.mp hd
  exact ⟨str_ok (z := [c]) fun x hx => by rw [List.mem_singleton.mp hx]; exact h c hc, by simp [PyData.depth]⟩
theorem lc_sg {l : List Nat} {g : TG} {tt : TT} {te : TE} {vs : List Nat} {σ : L2.St} {H1 : Hp} {D : Addr} {Qd : Hp → Prop} (Pv : Nat → Hp → Prop) (h0 : Pv 0 (upd H1 D (.lst [])))
    (hs : ∀ i c H, l[i]? = some c → Pv i H → g (.str ⟨#[c]⟩) (wipe σ vs) H fun σ2 H2 => wipe σ2 vs = wipe σ vs ∧ tt σ2 H2 fun b H3 => if b = true then te σ2 H3 fun y H4 => ∃ acc, H4 D = some (.lst acc) ∧ acc.length < sizeLine ∧ Pv (i + 1) (upd H4 D (.lst (acc ++ [y]))) else Pv (i + 1) H3) (hd : ∀ H, Pv l.length H → Qd H) :
    ∃ W : Nat → Nat → Hp → Prop, (∃ m, W 0 m (upd H1 D (.lst []))) ∧ ∀ i m H, W i m H →
      ((Its ⟨l.toArray⟩).stop i H ∧ Qd H) ∨ ((Its ⟨l.toArray⟩).go i H ∧ ∃ Nx : Hp → Prop, (∀ H', Nx H' → ∃ m', m' < m ∧ W (i + 1) m' H') ∧ ∀ x H', (Its ⟨l.toArray⟩).yld i H x H' → g x (wipe σ vs) H' fun σ2 H2 => wipe σ2 vs = wipe σ vs ∧ tt σ2 H2 fun b H3 =>
        if b = true then te σ2 H3 fun y H4 => ∃ acc, H4 D = some (.lst acc) ∧ acc.length < sizeLine ∧ Nx (upd H4 D (.lst (acc ++ [y]))) else Nx H3) := by
  refine ⟨fun i m H => m = l.length - i ∧ i ≤ l.length ∧ Pv i H, ⟨_, rfl, Nat.zero_le _, h0⟩, fun i m H w => ?_⟩
  obtain ⟨rfl, hi, p⟩ := w
  have sz : (⟨l.toArray⟩ : Str).cps.size = l.length := by simp
  by_cases lt : i < l.length
  · refine .inr ⟨by show i < (⟨l.toArray⟩ : Str).cps.size; rw [sz]; exact lt, Pv (i + 1), fun H' p' => ⟨l.length - (i + 1), by omega, rfl, lt, p'⟩, fun x H' y => ?_⟩
    obtain ⟨rfl, c, gc, rfl⟩ := y
    exact hs i c _ (by simpa using gc) p
  · obtain rfl : i = l.length := by omega
    exact .inl ⟨by show (⟨l.toArray⟩ : Str).cps.size ≤ l.length; rw [sz]; exact Nat.le_refl _, hd H p⟩
theorem dp_sig {K : PySem.W.Frag} {H : Hp} : ∀ z : List Nat, DpAll K H ((z.map fun c => (⟨#[c]⟩ : Str)).map V.str) (sigD z)
  | [] => .nil
  | c :: r => .cons (.str _) (dp_sig r)
abbrev sTold : Stmt := topS 20
theorem scTn : FnScope ["thing", "sign"] ["thing"] (defScope sTold) := ⟨rfl, rfl, rfl, by decide +kernel, rfl, by decide +kernel, by decide +kernel⟩
theorem low_btw (c : Nat) : low c = btw "a" "z" c := rfl
section
variable {P : Program} {w : World} {K : PySem.W.Frag} {mg : Str → Option Value} {base : Heap}
def spTold : Sp := fun vs H Q _ => ∃ z : List Nat, vs = [.str ⟨z.toArray⟩] ∧ (∀ c ∈ z, c < 127) ∧ z.length ≤ 100000 ∧ ∀ H', (∀ b o, H b = some o → H' b = some o) → Q (.bl (isName z)) H'
theorem ok_toldname {f fk : Addr} {fd kd : FuncData} (F : Fun K "_law_is_told_name" "_law_is_told_name" sTold f fd) (ml : mg "len" = none)
    (Fk : FnOk P w K mg base CX0 1 fk kd [] spKept) (mk : mg "_law_kept" = some (.ref fk)) (kk : PySem.W.keepIn K (.ref fk) = true) (bk : Binds K kd [] []) : FnOk P w K mg base CX0 2 f fd ["thing"] spTold := by
  refine F.ok scTn (fun vs H Q E h => ?_) (fun cdv A outer s H vs Q E hr h => ?_)
  · obtain ⟨z, rfl, _⟩ := h
    rfl
  · obtain ⟨z, rfl, hz, hl, k⟩ := h
    refine ⟨_, pss_cons (ps_if (PW.pt (pw_or (pt_cmpR op_in_seq (pv 0) (pe_call0 Fk hr rfl mk kk bk .nil pass0) (by rfl)) (pw_or1 (pt_not (pt_chain op_le op_le pe_int (pe_callB call_len_str (by rfl) ml PySem.boot_len (pa_cons (pv 0) pa_nil)) pe_int))))) (pss_one (ps_ret pe_bl)) pss_nil)
      (pss_one (ps_ret (pe_cmpR (op_eqD hr.units) (pe_lc (own := [("sign", 1)]) (g := gName 1) (tt := tNot (tTest (tChain rLeS rLeS (tC (.str "a")) (tVar 1) (tC (.str "z"))))) (te := tVar 1) (by rfl) scTn.nd (pi_str (pv 0)) (blkOk_by (own := [("sign", 1)]) (N := ["thing", "sign"]) (sc := defScope sTold) (by decide +kernel)) (fun _ _ _ _ _ => pg_name (i := 1) scTn.nd rfl (Or.inl rfl))
        (fun _ _ _ _ _ => pts_one (pt_not (pt_chain op_le_str op_le_str pe_str (pv 1) pe_str))) (fun _ _ _ _ _ => pv 1)) (pe_lst pa_nil) (nomark _)))), ?_⟩
    have lz : (⟨z.toArray⟩ : Str).length ≤ sizeLine := by rw [len_arr]; exact Nat.le_trans hl (by decide)
    refine ⟨_, rfl, rfl, fun p np => ⟨p, keptV, rfl, .inl (SqL.of upd_same), rfl, by decide +kernel, _, rfl, ?_⟩⟩
    have k1 : ∀ {b o}, H b = some o → (upd H p (.lst keptV)) b = some o := fun {b o} e => by rw [upd_ne (fun y => by rw [y, np] at e; cases e)]; exact e
    show if (inV (.str ⟨z.toArray⟩) keptV) = true then _ else _
    cases hv : inV (.str ⟨z.toArray⟩) keptV with
    | true =>
      refine iteT' rfl (iteT' rfl ?_)
      have q := k _ fun b o e => k1 e
      unfold isName at q
      rw [hv, Bool.not_true, Bool.and_false, Bool.and_false] at q
      exact q
    | false =>
      refine iteF' rfl ⟨_, rfl, ⟨z.toArray⟩, rfl, lz, _, _, rfl, rfl, _, rfl, ?_⟩
      rw [len_arr]
      by_cases h1 : 1 ≤ z.length
      · refine iteT' (decide_eq_true (by omega)) ⟨_, _, rfl, rfl, _, rfl, ?_⟩
        by_cases h8 : z.length ≤ 8
        · have e8 : decide ((z.length : Int) ≤ 8) = true := decide_eq_true (by omega)
          rw [e8]
          refine iteF' rfl ?_
          refine ⟨_, rfl, ⟨z.toArray⟩, rfl, fun L nL => ?_⟩
          refine lc_sg (l := z) (fun i G => ∃ zs : List Nat, G L = some (.lst ((zs.map fun c => (⟨#[c]⟩ : Str)).map V.str)) ∧ zs = (z.take i).filter (fun c => !low c) ∧ (∀ b o, (upd H p (.lst keptV)) b = some o → G b = some o)) ⟨[], upd_same, rfl, fun b o e => by rw [upd_ne (fun y => by rw [y, nL] at e; cases e)]; exact e⟩ (fun i c G hc h => ?_) (fun G h => ?_)
          · obtain ⟨zs, hL, ez, kG⟩ := h
            have tk : (z.take (i + 1)).filter (fun c => !low c) = zs ++ (if low c = true then [] else [c]) := by
              rw [List.take_add_one, hc, List.filter_append, ez]
              cases hw : low c <;> simp [hw]
            refine ⟨rfl, chain_run (i := 1) (c := c) rfl ⟨_, rfl, ?_⟩⟩
            rw [← low_btw]
            cases hl : low c with
            | true =>
              rw [hl] at tk
              refine iteF' rfl ⟨zs, hL, ?_, kG⟩
              rw [tk]; simp
            | false =>
              rw [hl] at tk
              have zl : zs.length ≤ z.length := by rw [ez]; exact Nat.le_trans (List.length_filter_le _ _) (by rw [List.length_take]; omega)
              refine iteT' rfl ⟨_, rfl, _, hL, by rw [List.length_map, List.length_map, sizeLine_eq]; omega, zs ++ [c], ?_, ?_, fun b o e => ?_⟩
              · rw [upd_same, List.map_append, List.map_append]; rfl
              · rw [tk]; simp
              · rw [upd_ne (fun y => by rw [y, nL] at e; cases e)]; exact kG b o e
          · obtain ⟨zs, hL, ez, kG⟩ := h
            rw [List.take_length] at ez
            refine ⟨Nat.zero_le _, fun M nM => ⟨.list (sigD zs), .list [], .lst (SqL.of ?_) (dp_sig zs), .lst (SqL.of upd_same) .nil, sig_shaped fun c hc => ?_, by decide +kernel, ?_⟩⟩
            · rw [upd_ne (fun y => by rw [← y, hL] at nM; cases nM)]; exact hL
            · rw [ez] at hc
              exact hz c (List.mem_filter.mp hc).1
            · have q := k (upd G M (.lst [])) fun b o e => by
                have e2 := kG b o (k1 e)
                rw [upd_ne (fun y => by rw [y, nM] at e2; cases e2)]; exact e2
              unfold isName at q
              rw [decide_eq_true h1, decide_eq_true h8, hv, Bool.true_and, Bool.true_and, Bool.not_false, Bool.and_true] at q
              have ee : PyData.eqv (.list (sigD zs)) (.list []) = z.all low := by
                rw [ez]
                cases ef : z.filter (fun c => !low c) with
                | nil =>
                  have a : z.all low = true := List.all_eq_true.mpr fun c hc => by
                    have y := List.filter_eq_nil_iff.mp ef c hc
                    simpa using y
                  rw [a]; decide +kernel
                | cons c r =>
                  have a : z.all low = false := by
                    have m : c ∈ z.filter (fun c => !low c) := by rw [ef]; exact List.mem_cons_self
                    obtain ⟨m1, m2⟩ := List.mem_filter.mp m
                    cases y : z.all low with
                    | false => rfl
                    | true => rw [List.all_eq_true.mp y c m1] at m2; cases m2
                  rw [a]
                  simp [sigD, PyData.eqv, PyData.eqvAll]
              rw [ee]
              exact q
        · have e8 : decide ((z.length : Int) ≤ 8) = false := decide_eq_false (by omega)
          rw [e8]
          refine iteT' rfl ?_
          have q := k _ fun b o e => k1 e
          unfold isName at q
          rw [decide_eq_false h8, Bool.and_false, Bool.false_and] at q
          exact q
      · refine iteF' (decide_eq_false (by omega)) ⟨_, rfl, iteT' rfl ?_⟩
        have q := k _ fun b o e => k1 e
        unfold isName at q
        rw [decide_eq_false h1, Bool.false_and, Bool.false_and] at q
        exact q
end
end Kn
set_option Elab.async false
set_option linter.all false
set_option maxRecDepth 100000
set_option maxHeartbeats 2000000
/-! a call by keywords alone; "q" * 8; upper. -/
namespace Kk
open PySem PySem.Spec PyProof.Rows L2 Sx Rp Dw NdefX Kc Gn GxR Kp Kt Kw Ks Kl Ka Kc2
section
variable {X : Cx} {CX : CXT} {x : Str} {f : Addr} {k : Nat} {fd : FuncData} {ps ks : List Str} {sp : Sp} {E : XK} {kws : List Keyword} {tk : TA} {p pos : Pos} {g : List Value → List Value → List Value} {gV : List V → List V → List V}
theorem pe_kw0 (F : FnOk X.prog X.w X.K X.mg X.base CX k f fd ps sp) (hr : Room k X.A) (hg : Gl X x) (hm : X.mg x = some (.ref f)) (hk : PySem.W.keepIn X.K (.ref f) = true) (hb : KBinds X.K fd ps ks g gV) (hx : Passes CX X E) (hkw : PK X kws tk)
    (hall : (backToKw pos (keywordEach kws X.env)).all (·.1.isSome) = true := by rfl) (hks : (backToKw pos (keywordEach kws X.env)).filterMap (·.1) = ks := by rfl) (hdb : (x == ("__debug__" : Str)) = false := by decide)
    (hpl : ((backTo pos (starEach [] X.env)).any (·.1) || (backToKw pos (keywordEach kws X.env)).any (·.1.isNone)) = false := by rfl) : PE X (.Call (.Name x p) [] kws pos) (fun σ H Q => tk σ H fun zs H2 => sp (gV [] zs) H2 Q E) := ⟨fun pins s σ H Q I y => by
  refine wpAny_Call_Name_kw (ld_glob I hg hm (PySem.W.callWith_KW0 (h₀ := X.base) I.ok.mod.kin hk hall (thn (hkw.run pos pins s σ H _ I y) fun ws s2 q => ?_) hpl) hdb)
  obtain ⟨zs, H2, I2, rz, q⟩ := q
  refine ⟨I2.kIn, ?_⟩
  rw [hks]
  exact run_fnk (us := []) (vs := []) F hr hb hx I2 .nil rz q⟩
end
theorem mul_q : MulOk "q" 8 ∧ Txt.mul "q" 8 = ("qqqqqqqq" : Str) := by
  refine ⟨⟨by decide, fun _ _ => by decide +kernel, fun _ _ => by decide +kernel⟩, by decide +kernel⟩
theorem op_mulQ {X : Cx} : OpR X (binaryOp .Mult) (fun x y H Q => x = .str ("q" : Str) ∧ y = .int 8 ∧ Q (.str ("qqqqqqqq" : Str)) H) := by
  intro pins s σ H x y v u Q I rx ry h
  obtain ⟨rfl, rfl, q⟩ := h
  obtain ⟨t, rfl⟩ := rx
  obtain ⟨t', rfl⟩ := ry
  refine SB.mul mul_q.1 fun t2 k2 => ?_
  rw [mul_q.2]
  exact ⟨.str "qqqqqqqq", H, I.tok k2, ⟨t2, rfl⟩, q⟩
theorem upper_sm {z : List Nat} (h : Sm z) : ∃ l : List Nat, Txt.upper ⟨z.toArray⟩ = ⟨l.toArray⟩ ∧ l.length = z.length ∧ ∀ c ∈ l, c < 127 := by
  have e := SX.upper_S (a := z) (List.all_eq_true.mpr fun c hc => decide_eq_true (by have := h c hc; omega))
  refine ⟨_, e, by rw [List.length_map], fun c hc => ?_⟩
  obtain ⟨y, hy, rfl⟩ := List.mem_map.mp hc
  have q : ((List.range 123).all fun c => decide (PyProof.Rows.up1 c < 127)) = true := by decide +kernel
  exact of_decide_eq_true (List.all_eq_true.mp q y (List.mem_range.mpr (by have := h y hy; omega)))
end Kk
set_option Elab.async false
set_option linter.all false
set_option maxRecDepth 100000
set_option maxHeartbeats 4000000
/-! names_right. -/
namespace Kr
open PySem PySem.Spec PyProof.Rows L2 Sx Rp Dw NdefX Kc Gn GxR Kp Kt Kw Ks Kl Ka Kc2 Kn Kk
abbrev sNames : Stmt := topS 21
theorem scNr : FnScope ["draw", "word", "kept", "some", "one", "odd"] ["draw"] (defScope sNames) := ⟨rfl, rfl, rfl, by decide +kernel, rfl, by decide +kernel, by decide +kernel⟩
/-- a text of few plain signs -/
def Gd (n : Nat) (s : Str) : Prop := ∃ y : List Nat, s = ⟨y.toArray⟩ ∧ (∀ c ∈ y, c < 127) ∧ y.length ≤ n
theorem gd_add {a b : Str} {n m : Nat} (h1 : Gd n a) (h2 : Gd m b) : Gd (n + m) (a ++ b) := by
  obtain ⟨y, rfl, y1, y2⟩ := h1
  obtain ⟨z, rfl, z1, z2⟩ := h2
  refine ⟨y ++ z, congrArg Str.mk (by simp), fun c hc => ?_, by rw [List.length_append]; omega⟩
  rcases List.mem_append.mp hc with h | h
  · exact y1 c h
  · exact z1 c h
theorem gd_le {s : Str} {n m : Nat} (h : n ≤ m) (g : Gd n s) : Gd m s := by
  obtain ⟨y, e, y1, y2⟩ := g
  exact ⟨y, e, y1, by omega⟩
theorem gd_len {s : Str} {n : Nat} (g : Gd n s) : s.length ≤ n := by
  obtain ⟨y, rfl, _, y2⟩ := g
  rw [len_arr]; exact y2
theorem gd_c {s : Str} {n : Nat} (h : (s.cps.toList.all fun c => decide (c < 127)) = true ∧ s.cps.toList.length ≤ n) : Gd n s := ⟨s.cps.toList, by cases s; simp, fun c hc => of_decide_eq_true (List.all_eq_true.mp h.1 c hc), h.2⟩
theorem dr_tab {H H2 : Hp} {d wp cp T : Addr} {n : Nat} (t : TabG H T) (h : Tabbed T H H2) (D : Dr H d wp cp n) : Dr H2 d wp cp n := by
  obtain ⟨ps, e, _⟩ := t
  obtain ⟨ws, cs, r, u, a, b⟩ := D
  have n1 : d ≠ T := fun y => by rw [← y, a.dc] at e; cases e
  have n2 : wp ≠ T := fun y => by rw [← y, a.wl] at e; cases e
  have n3 : cp ≠ T := fun y => by rw [← y, a.cl] at e; cases e
  exact ⟨ws, cs, r, u, ⟨by rw [h.2 _ n1]; exact a.dc, by rw [h.2 _ n2]; exact a.wl, by rw [h.2 _ n3]; exact a.cl, a.cb, a.cn, a.wn, a.t0, a.nwc⟩, b⟩
theorem tab_keep {H H2 : Hp} {T : Addr} (k : ∀ b o, H b = some o → H2 b = some o) (t : TabG H T) : TabG H2 T := by
  obtain ⟨ps, e, h⟩ := t
  exact ⟨ps, k _ _ e, h⟩
theorem tab_but {H H2 : Hp} {T d wp cp : Addr} {n : Nat} (D : Dr H d wp cp n) (B : But d wp H H2) (t : TabG H T) : TabG H2 T := by
  obtain ⟨ps, e, h⟩ := t
  obtain ⟨ws, cs, r, u, a, b⟩ := D
  exact ⟨ps, B _ _ e (fun y => by rw [y, a.dc] at e; cases e) (fun y => by rw [y, a.wl] at e; cases e), h⟩
section
variable {P : Program} {w : World} {K : PySem.W.Frag} {mg : Str → Option Value} {base : Heap}
def spNames (T : Addr) : Sp := fun vs H Q _ => ∃ (d wp cp : Addr) (n : Nat), vs = [.ref d] ∧ Dr H d wp cp (n + 30) ∧ TabG H T ∧ ∀ H', Dr H' d wp cp n → TabG H' T → (∀ b o, b ≠ d → b ≠ wp → b ≠ T → H b = some o → H' b = some o) → Q (.bl true) H'
theorem ok_names {f fp fk fa fn ft T : Addr} {fd pd kd ad nd td : FuncData} (F : Fun K "_law_names_right" "_law_names_right" sNames f fd)
    (Fp : FnOk P w K mg base CX0 3 fp pd ["draw", "some"] spPick) (mp : mg "_law_pick" = some (.ref fp)) (kp : PySem.W.keepIn K (.ref fp) = true) (bp : Binds K pd ["draw", "some"] [])
    (Fk : FnOk P w K mg base CX0 1 fk kd [] spKept) (mk : mg "_law_kept" = some (.ref fk)) (kk : PySem.W.keepIn K (.ref fk) = true) (bk : Binds K kd [] [])
    (Fa : FnOk P w K mg base CX0 4 fa ad ["draw"] spAny) (ma : mg "_law_any_name" = some (.ref fa)) (ka : PySem.W.keepIn K (.ref fa) = true) (ba : Binds K ad ["draw"] [])
    (Fn : FnOk P w K mg base CX0 2 fn nd ["thing"] (spName K T)) (mn : mg "is_name" = some (.ref fn)) (kn : PySem.W.keepIn K (.ref fn) = true) (bn : Binds K nd ["thing"] []) (bnk : KBinds K nd ["thing"] ["thing"] (fun us ws => us ++ ws) (fun vs zs => vs ++ zs))
    (Ft : FnOk P w K mg base CX0 2 ft td ["thing"] spTold) (mt : mg "_law_is_told_name" = some (.ref ft)) (kt : PySem.W.keepIn K (.ref ft) = true) (bt : Binds K td ["thing"] []) : FnOk P w K mg base CX0 5 f fd ["draw"] (spNames T) := by
  refine F.ok scNr (fun vs H Q E h => ?_) (fun cdv A outer s H vs Q E hr h => ?_)
  · obtain ⟨d, wp, cp, n, rfl, _⟩ := h
    rfl
  · obtain ⟨d, wp, cp, n, rfl, D, tg, k⟩ := h
    refine ⟨_, pss_cons (ps_par (by rfl) scNr.nd (i := 1) (j := 2) rfl rfl (by decide) rfl rfl (pa_cons (pe_call Fa hr rfl ma ka ba .nil pass0 (pa_cons (pv 0) pa_nil)) (pa_cons (pe_call Fp (hr.mono (by decide)) rfl mp kp bp .nil pass0 (pa_cons (pv 0) (pa_cons (pe_call0 Fk (hr.mono (by decide)) rfl mk kk bk .nil pass0) pa_nil))) pa_nil)) (by rfl))
      (pss_cons (ps_set (i := 3) scNr.nd rfl (Or.inl rfl) (pe_lst (pa_cons (pv 1) (pa_cons (pv 2) (pa_cons (pe_op op_add_str (pv 2) pe_str) (pa_cons (pe_slice sl_str (pv 2) (po_some pe_int) po_none) (pa_cons (pe_op op_add_str (pv 1) (pv 1)) (pa_cons (pe_op op_add_str (pv 1) (pe_op op_mulQ pe_str pe_int)) (pa_cons (pe_upper (pv 1)) (pa_cons (pe_op op_add_str (pv 1) pe_str) (pa_cons (pe_op op_add_str (pv 1) pe_str) (pa_cons (pe_op op_add_str pe_str (pv 1)) (pa_cons (pe_op op_add_str (pv 1) pe_str) (pa_cons pe_str pa_nil))))))))))))))
      (pss_cons (ps_for PassesOwn.never rfl (pi_list (pv 3)) (pg_name (i := 4) scNr.nd rfl (Or.inl rfl))
        (pss_one (ps_if (PW.pt (pw_or (pt_cmpR op_ne (pe_call Fn (hr.mono (by decide)) rfl mn kn bn .nil pass0 (pa_cons (pv 4) pa_nil)) (pe_call Ft (hr.mono (by decide)) rfl mt kt bt .nil pass0 (pa_cons (pv 4) pa_nil)) (nomark _)) (pw_or1 (pt_cmpR op_ne (pe_kw0 Fn (hr.mono (by decide)) rfl mn kn bnk pass0 (pk_cons (pv 4) pk_nil)) (pe_call Fn (hr.mono (by decide)) rfl mn kn bn .nil pass0 (pa_cons (pv 4) pa_nil)) (nomark _))))) (pss_one (ps_ret pe_bl)) pss_nil)))
      (pss_cons (ps_set (i := 5) scNr.nd rfl (Or.inl rfl) (pe_lst (pa_cons pe_non (pa_cons pe_int (pa_cons pe_int (pa_cons pe_bl (pa_cons (pe_tup (pa_cons (pv 1) pa_nil)) (pa_cons (pe_lst (pa_cons (pv 1) pa_nil)) (pa_cons (pe_disp (pps_cons (pv 1) (pv 1) pps_nil) (by rfl) (by rfl) (fun z => by cases z) (by decide)) (pa_cons (pe_tup pa_nil) (pa_cons (pe_dnewK) pa_nil)))))))))))
      (pss_one (ps_ret (pe_and (pe_cmpR (op_eqD hr.units) (pe_lc (own := [("one", 4)]) (g := gName 4) (tt := tB (tCall (spName K T) [] E0 (tCons (tVar 4) tNil))) (te := tVar 4) (by rfl) scNr.nd (pi_list (pv 5)) (blkOk_by (own := [("one", 4)]) (N := ["draw", "word", "kept", "some", "one", "odd"]) (sc := defScope sNames) (by decide +kernel)) (fun _ _ _ _ _ => pg_name (i := 4) scNr.nd rfl (Or.inl rfl)) (fun _ _ _ _ _ => pts_one (pt_val (pe_call Fn (hr.mono (by decide)) rfl mn kn bn .nil pass0 (pa_cons (pv 4) pa_nil)))) (fun _ _ _ _ _ => pv 4)) (pe_lst pa_nil) (nomark _))
        (pe_one (pe_cmpR (op_eqD hr.units) (pe_lc (own := [("one", 4)]) (g := gName 4) (tt := tB (tCall (spName K T) [] E0 (tCons (tVar 4) tNil))) (te := tVar 4) (by rfl) scNr.nd (pi_list (pe_call0 Fk (hr.mono (by decide)) rfl mk kk bk .nil pass0)) (blkOk_by (own := [("one", 4)]) (N := ["draw", "word", "kept", "some", "one", "odd"]) (sc := defScope sNames) (by decide +kernel)) (fun _ _ _ _ _ => pg_name (i := 4) scNr.nd rfl (Or.inl rfl)) (fun _ _ _ _ _ => pts_one (pt_val (pe_call Fn (hr.mono (by decide)) rfl mn kn bn .nil pass0 (pa_cons (pv 4) pa_nil)))) (fun _ _ _ _ _ => pv 4)) (pe_lst pa_nil) (nomark _))))))))), ?_⟩
    refine ⟨_, rfl, d, wp, cp, n + 10, rfl, D, fun z H1 sm zl D1 B1 => ⟨_, rfl, rfl, fun p np => ⟨d, wp, cp, p, n + 9, keptV, rfl, dr_new np D1, upd_same, dr_nwp D1 np, by decide +kernel, by decide +kernel, fun i y H2 hy D2 B2 => ⟨_, _, rfl, ?_⟩⟩⟩⟩
    obtain ⟨q, rfl, qk, qm, ql⟩ := kept_get hy
    have t1 := tab_but D B1 tg
    have t2 := tab_but (dr_new np D1) B2 (tab_keep (fun b o e => by rw [upd_ne (fun y => by rw [y, np] at e; cases e)]; exact e) t1)
    have B3 : But d wp H H2 := But.trans B1 (But.trans (but_new np) B2)
    have gw : Gd 9 ⟨z.toArray⟩ := ⟨z, rfl, fun c hc => by have := sm c hc; omega, zl⟩
    have gk : Gd 8 ⟨q.toArray⟩ := ⟨q, rfl, fun c hc => by have := qm c hc; omega, ql⟩
    obtain ⟨up, eu, lu, hu⟩ := upper_sm sm
    obtain ⟨ck, ec, lc, hc⟩ := cut_sub q (some 1) none
    have g1 := gd_add gk (gd_c (s := "s") (n := 1) (by decide +kernel))
    have g2 : Gd 8 (cutS ⟨q.toArray⟩ (some 1) none) := ⟨ck, ec, fun c h => by have := qm c (hc c h); omega, by omega⟩
    have g3 := gd_add gw gw
    have g4 := gd_add gw (gd_c (s := "qqqqqqqq") (n := 8) (by decide +kernel))
    have g5 : Gd 9 (Txt.upper ⟨z.toArray⟩) := ⟨up, eu, hu, by omega⟩
    have g6 := gd_add gw (gd_c (s := "1") (n := 1) (by decide +kernel))
    have g7 := gd_add gw (gd_c (s := "_") (n := 1) (by decide +kernel))
    have g8 := gd_add (gd_c (s := " ") (n := 1) (by decide +kernel)) gw
    have g9 := gd_add gw (gd_c (s := "\n") (n := 1) (by decide +kernel))
    have g0 := gd_c (s := "") (n := 0) (by decide +kernel)
    have fit : ∀ {a b : Str} {n m : Nat}, Gd n a → Gd m b → n + m ≤ 100 → a.length + b.length ≤ sizeLine := fun x y h => by have := gd_len x; have := gd_len y; rw [sizeLine_eq]; omega
    have c1 : ∀ s : Str, (s.cps.toList.all fun c => decide (c < 127)) = true ∧ s.cps.toList.length ≤ 8 → Gd 8 s := fun s h => gd_c h
    refine ⟨_, rfl, _, rfl, _, rfl, _, _, rfl, rfl, fit gk (c1 "s" (by decide +kernel)) (by decide), _, rfl, 1, rfl, ⟨q.toArray⟩, rfl, Nat.le_trans (gd_len gk) (by decide), _, rfl, _, rfl, _, _, rfl, rfl, fit gw gw (by decide), _, rfl, rfl, rfl, _, _, rfl, rfl, fit gw (c1 "qqqqqqqq" (by decide +kernel)) (by decide),
      _, rfl, ⟨_, rfl⟩, _, rfl, rfl, Nat.le_trans (gd_len gw) (by decide), _, rfl, _, _, rfl, rfl, fit gw (c1 "1" (by decide +kernel)) (by decide), _, rfl, _, _, rfl, rfl, fit gw (c1 "_" (by decide +kernel)) (by decide), _, rfl, _, _, rfl, rfl, fit (c1 " " (by decide +kernel)) gw (by decide), _, rfl, _, _, rfl, rfl, fit gw (c1 "\n" (by decide +kernel)) (by decide), (show 12 ≤ sizeLine by decide), fun l nl => ?_⟩
    have D3 : ∀ {o : HO}, Dr (upd H2 l o) d wp cp (n + 9) := fun {o} => dr_new nl D2
    have t3 : ∀ {o : HO}, TabG (upd H2 l o) T := fun {o} => tab_keep (fun b o' e => by rw [upd_ne (fun y => by rw [y, nl] at e; cases e)]; exact e) t2
    have B4 : ∀ {o : HO}, But d wp H (upd H2 l o) := fun {o} => But.trans B3 (but_new nl)
    generalize hHL : upd H2 l _ = HL
    have D4 : Dr HL d wp cp (n + 9) := by rw [← hHL]; exact D3
    have t4 : TabG HL T := by rw [← hHL]; exact t3
    have B5 : But d wp H HL := by rw [← hHL]; exact B4
    have hx : ∃ xs, HL l = some (.lst xs) ∧ ∀ v ∈ xs, ∃ s, v = V.str s ∧ Gd 18 s := by
      refine ⟨_, by rw [← hHL, upd_same], fun v hv => ?_⟩
      simp only [List.mem_cons, List.not_mem_nil, or_false] at hv
      rcases hv with rfl | rfl | rfl | rfl | rfl | rfl | rfl | rfl | rfl | rfl | rfl | rfl
      · exact ⟨_, rfl, gd_le (by decide) gw⟩
      · exact ⟨_, rfl, gd_le (by decide) gk⟩
      · exact ⟨_, rfl, gd_le (by decide) g1⟩
      · exact ⟨_, rfl, gd_le (by decide) g2⟩
      · exact ⟨_, rfl, gd_le (by decide) g3⟩
      · exact ⟨_, rfl, gd_le (by decide) g4⟩
      · exact ⟨_, rfl, gd_le (by decide) g5⟩
      · exact ⟨_, rfl, gd_le (by decide) g6⟩
      · exact ⟨_, rfl, gd_le (by decide) g7⟩
      · exact ⟨_, rfl, gd_le (by decide) g8⟩
      · exact ⟨_, rfl, gd_le (by decide) g9⟩
      · exact ⟨_, rfl, gd_le (by decide) g0⟩
    obtain ⟨xs, hl, gx⟩ := hx
    clear hHL D3 t3 B4 g0 g1 g2 g3 g4 g5 g6 g7 g8 g9 fit c1 eu ec lu lc hu hc nl
    have lT : ∀ {a : Addr} {o : HO}, HL a = some o → (∀ ps, o ≠ .tbl ps) → a ≠ T := fun {a o} e h y => by
      obtain ⟨ps, e2, _⟩ := t4
      rw [y, e2] at e; cases e
      exact h ps rfl
    have keepT : ∀ {G G2 : Hp}, (∀ b o, b ≠ T → HL b = some o → G b = some o) → Tabbed T G G2 → ∀ b o, b ≠ T → HL b = some o → G2 b = some o := fun {G G2} k1 h b o bT e => by rw [h.2 b bT]; exact k1 b o bT e
    refine ⟨_, rfl, l, rfl, ⟨_, SqL.of hl⟩, for_list (xs := xs) (fun _ σ G => (∃ o4 : Option V, σ = [some (.ref d), some (.str ⟨z.toArray⟩), some (.str ⟨q.toArray⟩), some (.ref l), o4, none]) ∧ TabG G T ∧ Dr G d wp cp (n + 9) ∧ ∀ b o, b ≠ T → HL b = some o → G b = some o) ⟨⟨none, rfl⟩, t4, D4, fun b o _ e => e⟩ (fun i σ G _ h => SqL.of (h.2.2.2 _ _ (lT hl (fun ps y => by cases y)) hl)) (fun i x σ G hxi h => ?_) (fun σ G h => ?_)⟩
    · obtain ⟨⟨o4, rfl⟩, tb, DG, kG⟩ := h
      obtain ⟨s, rfl, y, rfl, y1, y2⟩ := gx x (List.mem_of_getElem? hxi)
      have len : y.length ≤ 100000 := by omega
      refine ⟨_, rfl, _, rfl, .inr ⟨y, rfl, len, tb, fun G2 h2 => ⟨_, rfl, y, rfl, y1, len, fun G3 k3 => ⟨rfl, _, rfl, iteF' (by simp) ?_⟩⟩⟩⟩
      have D2' := dr_same k3 (dr_tab tb h2 DG)
      have tb3 := tab_keep k3 h2.1
      have kG3 : ∀ b o, b ≠ T → HL b = some o → G3 b = some o := fun b o bT e => k3 b o (keepT kG h2 b o bT e)
      exact ⟨_, rfl, _, rfl, .inr ⟨y, rfl, len, tb3, fun G4 h4 => ⟨_, rfl, _, rfl, .inr ⟨y, rfl, len, h4.1, fun G5 h5 => ⟨rfl, _, rfl, iteF' (by simp) ⟨⟨_, rfl⟩, h5.1, dr_tab h4.1 h5 (dr_tab tb3 h4 D2'), keepT (keepT kG3 h4) h5⟩⟩⟩⟩⟩⟩
    · obtain ⟨⟨o4, rfl⟩, tb, DG, kG⟩ := h
      have nx : ∀ {G1 : Hp} {t b : Addr} {o o2 : HO}, G1 t = none → G1 b = some o → (upd G1 t o2) b = some o := fun {G1 t b o o2} n1 e => by rw [upd_ne (fun y => by rw [y, n1] at e; cases e)]; exact e
      refine ⟨_, rfl, (show 1 ≤ sizeLine by decide), fun a1 n1 => ?_⟩
      have e1 : ∃ ys, (upd G a1 (.tup [V.str ⟨z.toArray⟩])) a1 = some (.tup ys) := ⟨_, upd_same⟩
      have k1 : ∀ {b o}, G b = some o → (upd G a1 (.tup [V.str ⟨z.toArray⟩])) b = some o := fun {b o} e => nx n1 e
      generalize upd G a1 (.tup [V.str ⟨z.toArray⟩]) = E1 at e1 k1
      refine ⟨_, rfl, (show 1 ≤ sizeLine by decide), fun a2 n2 => ?_⟩
      have e2 : ∃ ys, (upd E1 a2 (.lst [V.str ⟨z.toArray⟩])) a2 = some (.lst ys) := ⟨_, upd_same⟩
      have k2 : ∀ {b o}, E1 b = some o → (upd E1 a2 (.lst [V.str ⟨z.toArray⟩])) b = some o := fun {b o} e => nx n2 e
      generalize upd E1 a2 (.lst [V.str ⟨z.toArray⟩]) = E2 at e2 k2
      refine fun a3 n3 => ⟨_, rfl, _, rfl, upd_same, [((Sum.inr (⟨z.toArray⟩ : Str) : Key), V.str ⟨z.toArray⟩)], rfl, (show 1 ≤ 15 by decide), ?_⟩
      rw [upd_upd_same]
      have e3 : ∃ ys, (upd E2 a3 (.dK (mergeK [] [((Sum.inr (⟨z.toArray⟩ : Str) : Key), V.str ⟨z.toArray⟩)]))) a3 = some (.dK ys) := ⟨_, upd_same⟩
      have k3 : ∀ {b o}, E2 b = some o → (upd E2 a3 (.dK (mergeK [] [((Sum.inr (⟨z.toArray⟩ : Str) : Key), V.str ⟨z.toArray⟩)]))) b = some o := fun {b o} e => nx n3 e
      generalize upd E2 a3 (.dK (mergeK [] [((Sum.inr (⟨z.toArray⟩ : Str) : Key), V.str ⟨z.toArray⟩)])) = E3 at e3 k3
      refine ⟨(show 0 ≤ sizeLine by decide), fun a4 n4 => ?_⟩
      have e4 : ∃ ys, (upd E3 a4 (.tup [])) a4 = some (.tup ys) := ⟨_, upd_same⟩
      have k4 : ∀ {b o}, E3 b = some o → (upd E3 a4 (.tup [])) b = some o := fun {b o} e => nx n4 e
      generalize upd E3 a4 (.tup []) = E4 at e4 k4
      refine fun a5 n5 => ?_
      have e5 : ∃ ys, (upd E4 a5 (.dK [])) a5 = some (.dK ys) := ⟨_, upd_same⟩
      have k5 : ∀ {b o}, E4 b = some o → (upd E4 a5 (.dK [])) b = some o := fun {b o} e => nx n5 e
      generalize upd E4 a5 (.dK []) = E5 at e5 k5
      refine ⟨(show 9 ≤ sizeLine by decide), fun lo nlo => ?_⟩
      have e6 : (upd E5 lo (.lst [.non, .int 5, .int 0, .bl true, .ref a1, .ref a2, .ref a3, .ref a4, .ref a5])) lo = some (.lst [.non, .int 5, .int 0, .bl true, .ref a1, .ref a2, .ref a3, .ref a4, .ref a5]) := upd_same
      have k6 : ∀ {b o}, E5 b = some o → (upd E5 lo (.lst [.non, .int 5, .int 0, .bl true, .ref a1, .ref a2, .ref a3, .ref a4, .ref a5])) b = some o := fun {b o} e => nx nlo e
      generalize upd E5 lo (.lst [.non, .int 5, .int 0, .bl true, .ref a1, .ref a2, .ref a3, .ref a4, .ref a5]) = GO at e6 k6
      have kO : ∀ b o, G b = some o → GO b = some o := fun b o e => k6 (k5 (k4 (k3 (k2 (k1 e)))))
      have DO := dr_same kO DG
      have tO := tab_keep kO tb
      have noS : ∀ G' : Hp, (∀ b o, GO b = some o → G' b = some o) → ∀ v ∈ ([.non, .int 5, .int 0, .bl true, .ref a1, .ref a2, .ref a3, .ref a4, .ref a5] : List V), NoStr K G' v := fun G' kk v hv => by
        simp only [List.mem_cons, List.not_mem_nil, or_false] at hv
        obtain ⟨y1, e1⟩ := e1
        obtain ⟨y2, e2⟩ := e2
        obtain ⟨y3, e3⟩ := e3
        obtain ⟨y4, e4⟩ := e4
        obtain ⟨y5, e5⟩ := e5
        rcases hv with rfl | rfl | rfl | rfl | rfl | rfl | rfl | rfl | rfl
        · exact ⟨_, .base .non, by rfl⟩
        · exact ⟨_, .base (.int 5), by rfl⟩
        · exact ⟨_, .base (.int 0), by rfl⟩
        · exact ⟨_, .base (.bl true), by rfl⟩
        · exact ⟨_, .base (.tup (kk _ _ (k6 (k5 (k4 (k3 (k2 e1))))))), by rfl⟩
        · exact ⟨_, .base (.lst (kk _ _ (k6 (k5 (k4 (k3 e2)))))), by rfl⟩
        · exact ⟨_, .base (.dK (kk _ _ (k6 (k5 (k4 e3))))), by rfl⟩
        · exact ⟨_, .base (.tup (kk _ _ (k6 (k5 e4)))), by rfl⟩
        · exact ⟨_, .base (.dK (kk _ _ (k6 e5))), by rfl⟩
      refine ⟨_, rfl, lo, rfl, ⟨_, SqL.of e6⟩, fun L nL => ?_⟩
      have lL : lo ≠ L := fun y => by rw [← y, e6] at nL; cases nL
      refine lc_list (K := K) (a := lo) (xs := [.non, .int 5, .int 0, .bl true, .ref a1, .ref a2, .ref a3, .ref a4, .ref a5]) (fun _ G' => G' = upd GO L (.lst [])) rfl (fun i G' _ h => by rw [h]; exact SqL.of (by rw [upd_ne lL]; exact e6)) (fun i x G' hx h => ?_) (fun G' h => ?_)
      · subst h
        exact ⟨rfl, x, rfl, x, rfl, .inl ⟨noS _ (fun b o e => nx nL e) x (List.mem_of_getElem? hx), false, rfl, iteF' rfl rfl⟩⟩
      · subst h
        refine ⟨Nat.zero_le _, fun M nM => ⟨.list [], .list [], .lst (SqL.of (by rw [upd_ne (fun y => by rw [← y, upd_same] at nM; cases nM)]; exact upd_same)) .nil, .lst (SqL.of upd_same) .nil, by decide +kernel, by decide +kernel, _, rfl, iteT' (by decide +kernel) ?_⟩⟩
        have kM : ∀ b o, GO b = some o → (upd (upd GO L (.lst [])) M (.lst [])) b = some o := fun b o e => nx nM (nx nL e)
        generalize upd (upd GO L (.lst [])) M (.lst []) = GM at kM
        have DM := dr_same kM DO
        have tM := tab_keep kM tO
        refine ⟨rfl, fun p2 np2 => ⟨p2, rfl, ⟨_, SqL.of upd_same⟩, fun L2 nL2 => ?_⟩⟩
        have kP : ∀ b o, GM b = some o → (upd (upd GM p2 (.lst keptV)) L2 (.lst [])) b = some o := fun b o e => nx nL2 (nx np2 e)
        have pL : p2 ≠ L2 := fun y => by rw [← y, upd_same] at nL2; cases nL2
        have hp2 : (upd (upd GM p2 (.lst keptV)) L2 (.lst [])) p2 = some (.lst keptV) := by rw [upd_ne pL]; exact upd_same
        have hL2 : (upd (upd GM p2 (.lst keptV)) L2 (.lst [])) L2 = some (.lst []) := upd_same
        have tP := tab_keep kP tM
        have DP := dr_same kP DM
        have kH : ∀ b o, b ≠ d → b ≠ wp → b ≠ T → H b = some o → (upd (upd GM p2 (.lst keptV)) L2 (.lst [])) b = some o := fun b o h1 h2 h3 e => kP b o (kM b o (kO b o (kG b o h3 (B5 b o e h1 h2))))
        generalize upd GM p2 (.lst keptV) = GQ at hp2 hL2 tP DP kH nL2
        have aT : ∀ {a : Addr} {o : HO}, (upd GQ L2 (.lst [])) a = some o → (∀ ps, o ≠ .tbl ps) → a ≠ T := fun {a o} e h y => by
          obtain ⟨ps, e2, _⟩ := tP
          rw [y, e2] at e; cases e
          exact h ps rfl
        refine lc_list (K := K) (a := p2) (xs := keptV) (fun _ G' => Tabbed T (upd GQ L2 (.lst [])) G') ⟨tP, fun _ _ => rfl⟩ (fun i G' _ h => SqL.of (by rw [h.2 _ (aT hp2 (fun ps y => by cases y))]; exact hp2)) (fun i x G' hx h => ?_) (fun G' h => ?_)
        · obtain ⟨q', rfl, qk', _, ql'⟩ := kept_get hx
          have inn : inV (.str ⟨q'.toArray⟩) keptV = true := by
            have a : ∀ s ∈ keptS, inV (.str s) keptV = true := by decide +kernel
            exact a _ qk'
          have no : isName q' = false := by unfold isName; rw [inn]; simp
          refine ⟨rfl, _, rfl, _, rfl, .inr ⟨q', rfl, by omega, h.1, fun H2 h2 => ⟨_, rfl, iteF' no ⟨h2.1, fun b hb => (h2.2 b hb).trans (h.2 b hb)⟩⟩⟩⟩
        · have hM : G' L2 = some (.lst []) := by rw [h.2 _ (aT hL2 (fun ps y => by cases y))]; exact hL2
          refine ⟨Nat.zero_le _, fun M2 nM2 => ⟨.list [], .list [], .lst (SqL.of (nx nM2 hM)) .nil, .lst (SqL.of upd_same) .nil, by decide +kernel, by decide +kernel, ?_⟩⟩
          have ev : PyData.eqv (.list []) (.list []) = true := by decide +kernel
          rw [ev]
          exact k _ (dr_new nM2 (dr_le (by omega) (dr_tab tP h DP))) (tab_keep (fun b o e => nx nM2 e) h.1) fun b o h1 h2 h3 e => nx nM2 (by rw [h.2 b h3]; exact kH b o h1 h2 h3 e)
end
end Kr
set_option Elab.async false
set_option linter.all false
set_option maxRecDepth 100000
set_option maxHeartbeats 2000000
/-! How long the told words are when shown. -/
namespace Kv
open PySem PySem.Spec PyProof.Rows L2 Kc Kp Kw Kn
theorem st_all (n : Int) (l : List Nat) : ∀ i, i ≤ l.length → ∀ x ∈ (st n l i).1, (∀ c ∈ x.1, c ∈ l) ∧ x.1.length ≤ i ∧ x.2.1 = n ∧ 0 ≤ x.2.2 ∧ x.2.2 ≤ i
  | 0, _, x, h => nomatch h
  | i + 1, hi, x, h => by
    have r := st_all n l i (by omega)
    have mem : l[i]'(by omega) ∈ l := List.getElem_mem _
    rw [st_succ n (List.getElem?_eq_getElem (show i < l.length by omega))] at h
    generalize l[i]'(by omega) = c at h mem
    unfold Kc.step at h
    split at h
    · have g : ∀ L : List Wd, (∀ x ∈ L, (∀ c ∈ x.1, c ∈ l) ∧ x.1.length ≤ i ∧ x.2.1 = n ∧ 0 ≤ x.2.2 ∧ x.2.2 ≤ i) → ∀ x ∈ grow c L, (∀ c ∈ x.1, c ∈ l) ∧ x.1.length ≤ i + 1 ∧ x.2.1 = n ∧ 0 ≤ x.2.2 ∧ x.2.2 ≤ ((i + 1 : Nat) : Int) := by
        intro L
        induction L with
        | nil => intro _ x h; cases h
        | cons y t ih =>
          intro hL x hx
          cases t with
          | nil =>
            obtain rfl := List.mem_singleton.mp (show x ∈ [((y.1 ++ [c], y.2) : Wd)] from hx)
            obtain ⟨a1, a2, a3, a4, a5⟩ := hL y List.mem_cons_self
            refine ⟨fun d hd => ?_, by simp; omega, a3, a4, by show y.2.2 ≤ _; omega⟩
            rcases List.mem_append.mp hd with h | h
            · exact a1 d h
            · rw [List.mem_singleton.mp h]; exact mem
          | cons u v =>
            rcases List.mem_cons.mp (show x ∈ y :: grow c (u :: v) from hx) with rfl | hx
            · obtain ⟨a1, a2, a3, a4, a5⟩ := hL x List.mem_cons_self
              exact ⟨a1, by omega, a3, a4, by omega⟩
            · exact ih (fun w hw => hL w (List.mem_cons_of_mem _ hw)) x hx
      exact g _ r x h
    · split at h
      · obtain ⟨a1, a2, a3, a4, a5⟩ := r x h
        exact ⟨a1, by omega, a3, a4, by omega⟩
      · rcases List.mem_append.mp h with h | h
        · obtain ⟨a1, a2, a3, a4, a5⟩ := r x h
          exact ⟨a1, by omega, a3, a4, by omega⟩
        · rw [List.mem_singleton.mp h]
          exact ⟨fun d hd => by rw [List.mem_singleton.mp hd]; exact mem, by show 1 ≤ i + 1; omega, rfl, by show (0 : Int) ≤ (i : Int) + 1; omega, by show (i : Int) + 1 ≤ _; omega⟩
theorem spl_sum : ∀ (l acc : List Nat), ((TL.spl [10] 0 acc l).map List.length).sum ≤ acc.length + l.length
  | [], acc => by rw [TL.spl_nil]; simp
  | c :: r, acc => by
    cases h : TL.pre [10] (c :: r) with
    | true =>
      rw [TL.spl_hit h]
      have q := spl_sum r []
      simp at q ⊢
      omega
    | false =>
      rw [TL.spl_miss h]
      have q := spl_sum r (acc ++ [c])
      simp at q ⊢
      omega
theorem wo_len : ∀ (t : List (List Nat)) (r : Int), (wo r t).length ≤ (t.map List.length).sum
  | [], r => Nat.zero_le _
  | l :: t, r => by
    show (line r l ++ wo (r + 1) t).length ≤ _
    rw [List.length_append, List.map_cons, List.sum_cons]
    have a := st_len r l l.length (Nat.le_refl _)
    have b := wo_len t (r + 1)
    show (st r l l.length).1.length + _ ≤ _
    omega
theorem words_len (z : List Nat) : (words z).length ≤ z.length := by
  have a := wo_len (lines z) 1
  have b := spl_sum z []
  simp at b
  exact Nat.le_trans a b
theorem wo_all (z : List Nat) : ∀ (t : List (List Nat)) (r : Int), (∀ l ∈ t, l ∈ lines z) → ∀ x ∈ wo r t, (∀ c ∈ x.1, c ∈ z) ∧ x.1.length ≤ z.length ∧ r ≤ x.2.1 ∧ x.2.1 < r + t.length ∧ 0 ≤ x.2.2 ∧ x.2.2 ≤ z.length
  | [], r, _, x, h => nomatch h
  | l :: t, r, hl, x, h => by
    rcases List.mem_append.mp (show x ∈ line r l ++ wo (r + 1) t from h) with h | h
    · obtain ⟨a1, a2, a3, a4, a5⟩ := st_all r l l.length (Nat.le_refl _) x h
      obtain ⟨b1, b2⟩ := lines_ok (hl l List.mem_cons_self)
      refine ⟨fun c hc => b2 c (a1 c hc), by omega, by omega, by rw [a3, List.length_cons]; omega, a4, by omega⟩
    · obtain ⟨a1, a2, a3, a4, a5, a6⟩ := wo_all z t (r + 1) (fun u hu => hl u (List.mem_cons_of_mem _ hu)) x h
      exact ⟨a1, a2, by omega, by rw [List.length_cons]; omega, a5, a6⟩
theorem words_all (z : List Nat) {x : Wd} (h : x ∈ words z) : (∀ c ∈ x.1, c ∈ z) ∧ x.1.length ≤ z.length ∧ 0 ≤ x.2.1 ∧ x.2.1 ≤ z.length + 1 ∧ 0 ≤ x.2.2 ∧ x.2.2 ≤ z.length := by
  obtain ⟨a1, a2, a3, a4, a5, a6⟩ := wo_all z (lines z) 1 (fun _ h => h) x h
  have := lines_len z
  exact ⟨a1, a2, by omega, by omega, a5, a6⟩
theorem strlen_add (a b : Str) : (a ++ b).length = a.length + b.length := by
  show (a.cps ++ b.cps).size = _
  rw [Array.size_append]; rfl
theorem from_len : ∀ (ts : List Str) (k : Nat) (acc : Str), (textFrom k acc ts).length ≤ acc.length + piled ts
  | [], k, acc => Nat.le_add_right _ _
  | t :: r, k, acc => by
    have q := from_len r (k + 1) (acc ++ (if k > 0 then ", " else "" : String) ++ t)
    rw [strlen_add, strlen_add] at q
    have s : ((if k > 0 then ", " else "" : String) : Str).length ≤ 2 := by
      by_cases h : k > 0
      · rw [if_pos h]; decide +kernel
      · rw [if_neg h]; decide +kernel
    rw [piled_cons]
    show (textFrom (k + 1) (acc ++ (if k > 0 then ", " else "" : String) ++ t) r).length ≤ _
    omega
theorem int_len {i : Int} (h0 : 0 ≤ i) (h1 : i ≤ 601) : (PyData.int i).shown.length ≤ 3 := by
  have q : ((List.range 602).all fun n => decide ((PyData.int (n : Int)).shown.length ≤ 3)) = true := by decide +kernel
  obtain ⟨j, rfl⟩ := Int.eq_ofNat_of_zero_le h0
  exact of_decide_eq_true (List.all_eq_true.mp q j (List.mem_range.mpr (by omega)))
theorem tup_len (a b c : Str) : (tupleText [a, b, c]).length = a.length + b.length + c.length + 6 := by
  unfold tupleText
  rw [strlen_add, strlen_add]
  have j := join_length_add [a, b, c] (by simp)
  rw [piled_cons, piled_cons, piled_cons, piled_nil] at j
  have p1 : (("(" : String) : Str).length = 1 := by decide +kernel
  have p2 : ((if ([a, b, c] : List Str).length == 1 then ",)" else ")" : String) : Str).length = 1 := by
    show ((")" : String) : Str).length = 1
    decide +kernel
  rw [p1, p2]
  omega
theorem word_len {x : Wd} {z : List Nat} (hz : ∀ c ∈ z, c < 127) (hl : z.length ≤ 600) (h : x ∈ words z) : (dW x).shown.length ≤ 6020 := by
  obtain ⟨a1, a2, a3, a4, a5, a6⟩ := words_all z h
  have l1 := PySem.StrLaws.reprText_len (⟨x.1.toArray⟩ : Str) (fun c hc => by have := hz c (a1 c (by simpa using hc)); omega)
  rw [len_arr x.1] at l1
  have l2 := int_len a3 (by omega)
  have l3 := int_len a5 (by omega)
  have e : (dW x).shown = tupleText [reprText ⟨x.1.toArray⟩, (PyData.int x.2.1).shown, (PyData.int x.2.2).shown] := by simp [dW, PyData.shown, PyData.shownAll]
  rw [e]
  rw [tup_len]
  omega
def wordsD (z : List Nat) : PyData := .list ((words z).map dW)
theorem words_shown {z : List Nat} (hz : ∀ c ∈ z, c < 127) (hl : z.length ≤ 600) : (wordsD z).shown.length ≤ sizeLine := by
  have e : (wordsD z).shown = listText (((words z).map dW).map PyData.shown) := by
    have g : ∀ l : List PyData, PyData.shownAll l = l.map PyData.shown := by
      intro l
      induction l with
      | nil => rfl
      | cons d r ih => simp [PyData.shownAll, ih]
    simp [wordsD, PyData.shown, g]
  rw [e]
  unfold listText
  rw [strlen_add]
  have a := from_len (((words z).map dW).map PyData.shown) 0 "["
  have p1 : (("[" : String) : Str).length = 1 := by decide +kernel
  have p2 : (("]" : String) : Str).length = 1 := by decide +kernel
  have b : piled (((words z).map dW).map PyData.shown) ≤ (words z).length * 6022 := by
    have w : ∀ ws : List Wd, (∀ x ∈ ws, (dW x).shown.length ≤ 6020) → piled ((ws.map dW).map PyData.shown) ≤ ws.length * 6022 := by
      intro ws
      induction ws with
      | nil => intro _; exact Nat.le_refl _
      | cons x r ih =>
        intro h
        have q := ih fun y hy => h y (List.mem_cons_of_mem _ hy)
        have q2 := h x List.mem_cons_self
        rw [List.map_cons, List.map_cons, piled_cons, List.length_cons]
        omega
    exact w _ fun x hx => word_len hz hl hx
  have c := words_len z
  have d : (words z).length * 6022 ≤ 600 * 6022 := Nat.mul_le_mul_right _ (by omega)
  rw [p1] at a
  rw [p2, sizeLine_eq]
  omega
theorem words_ok {z : List Nat} (hz : ∀ c ∈ z, c < 127) (hl : z.length ≤ 600) : SeqAt.shaped (wordsD z) = true ∧ (wordsD z).showable = true ∧ (wordsD z).depth ≤ 64 := by
  have sh : SeqAt.shaped (wordsD z) = true := all_shaped fun d hd => by
    obtain ⟨x, hx, rfl⟩ := List.mem_map.mp hd
    obtain ⟨a1, _⟩ := words_all z hx
    have s := str_ok (z := x.1) fun c hc => hz c (a1 c hc)
    constructor
    · simp [dW, PyData.canLay0, PyData.canLayAll0, s]
    · simp [dW, PyData.depth, PyData.depthAll]
  refine ⟨sh, ?_, SeqAt.depth_of_shaped sh⟩
  have g : ∀ ws : List Wd, (∀ x ∈ ws, (dW x).showable = true) → PyData.showableAll (ws.map dW) = true := by
    intro ws
    induction ws with
    | nil => intro _; rfl
    | cons x r ih =>
      intro h
      simp [PyData.showableAll, h x List.mem_cons_self, ih fun y hy => h y (List.mem_cons_of_mem _ hy)]
  show (PyData.list _).showable = true
  have q := g (words z) fun x hx => by
    obtain ⟨a1, a2, a3, a4, a5, a6⟩ := words_all z hx
    have small : ∀ {i : Int}, 0 ≤ i → i ≤ 601 → decide (i.natAbs.log2 < 1920) = true := fun {i} h0 h1 => by
      refine decide_eq_true (Nat.lt_of_le_of_lt (Nat.log2_le_self _) (by omega))
    simp [dW, PyData.showable, PyData.showableAll]
    exact ⟨of_decide_eq_true (small a3 (by omega)), of_decide_eq_true (small a5 (by omega))⟩
  simpa [PyData.showable] using q
end Kv
set_option Elab.async false
set_option linter.all false
set_option maxRecDepth 100000
set_option maxHeartbeats 2000000
/-! a call of a def that may raise, under a try: the wish at the slots as they stand. -/
namespace Ky
open PySem PySem.Spec PyProof.Rows L2
section
variable {X : Cx} {k : Nat} {f : Addr} {fd : FuncData} {ps : List Str} {sp : Sp} {W : WX} {x : Str} {p pos : Pos} {e : Expr} {es : List Expr} {t : TA}
theorem pe_callE (F : FnOk X.prog X.w X.K X.mg X.base (L2.CX X.prog X.w) k f fd ps sp) (tk : Takes X W) (hr : Room k X.A) (hg : Gl X x) (hm : X.mg x = some (.ref f)) (hk : PySem.W.keepIn X.K (.ref f) = true) (hb : Binds X.K fd ps []) (ha : PA X (e :: es) t)
    (hdb : (x == ("__debug__" : Str)) = false := by decide) (he : starEach (e :: es) X.env = (false, eval e X.env) :: starEach es X.env := by rfl) (hpl : (backTo pos (starEach es X.env)).any (·.1) = false := by rfl) :
    PE X (.Call (.Name x p) (e :: es) [] pos) (fun σ H Q => t σ H fun vs H1 => sp vs H1 Q fun cls d H2 => W cls d σ H2) := ⟨fun pins s σ H Q I y => by
  refine wpAny_Call_Name_kw (ld_glob I hg hm (PySem.W.callWith_K (h₀ := X.base) I.ok.mod.kin hk (thn (ha.run pos pins s σ H _ I y) fun us s1 q => ?_) he hpl) hdb)
  obtain ⟨vs, H1, I1, r, q⟩ := q
  have len : (us ++ []).length = ps.length := by rw [List.append_nil, ← Paired.length r]; exact F.len _ _ _ _ q
  have bind := hb s1 us I1.kIn len
  rw [List.append_nil] at bind
  refine ⟨I1.kIn, wpAny_call (codeAny_mono (F.run X.A X.stack s1 H1 ⟨us, []⟩ us vs Q _ hr I1.env0 bind r q) fun res s2 hq => ?_)⟩
  cases res with
  | error u => exact tk u s2 (XE.of_call I1 (fun _ _ _ z => z) hq)
  | ok fl =>
    cases fl with
    | ret u => exact I1.after hq
    | next => exact hq.elim
    | brk => exact hq.elim
    | cont => exact hq.elim⟩
end
end Ky
set_option Elab.async false
set_option linter.all false
set_option maxRecDepth 100000
set_option maxHeartbeats 4000000
/-! The law's own def. -/
namespace Kz
open PySem PySem.Spec PyProof.Rows L2 Sx Rp Dw NdefX Kc Gn GxR Kp Kt Kw Ks Kl Ka Kc2 Kn Kk Kr Ky Kb Kv
abbrev sLaw : Stmt := topS 22
abbrev NL : List Str := ["script", "draw", "turn", "text", "told", "odd", "caught", "error", "k"]
theorem scLaw : FnScope NL ["script"] (defScope sLaw) := ⟨rfl, rfl, rfl, by decide +kernel, rfl, by decide +kernel, by decide +kernel⟩
structure DefOk (P : Program) (w : World) (K : PySem.W.Frag) (mg : Str → Option Value) (base : Heap) (x : Str) (k : Nat) (ps : List Str) (sp : Sp) : Prop where
  ex : ∃ f fd, mg x = some (.ref f) ∧ PySem.W.keepIn K (.ref f) = true ∧ FnOk P w K mg base CX0 k f fd ps sp ∧ Binds K fd ps []
theorem dp_strs {K : PySem.W.Frag} {H : Hp} : ∀ l : List Str, DpAll K H (l.map V.str) (l.map PyData.str)
  | [] => .nil
  | s :: r => .cons (.str s) (dp_strs r)
theorem new_same {H : Hp} {t : Addr} {o : HO} (n : H t = none) : ∀ b u, H b = some u → (upd H t o) b = some u := fun b u e => by rw [upd_ne (fun y => by rw [y, n] at e; cases e)]; exact e
theorem join_flat : ∀ zs : List (List Nat), TL.joinL [] zs = zs.flatten
  | [] => rfl
  | [z] => by show z = [z].flatten; simp
  | z :: y :: r => by
    show z ++ ([] ++ TL.joinL [] (y :: r)) = _
    rw [join_flat (y :: r)]; simp
theorem join_texts (zs : List (List Nat)) : Txt.join ("" : Str) (zs.map fun z => (⟨z.toArray⟩ : Str)) = ⟨zs.flatten.toArray⟩ := by
  have e := SX.join_S [] zs
  rw [join_flat] at e
  have e2 : ("" : Str) = (⟨([] : List Nat).toArray⟩ : Str) := by decide +kernel
  rw [e2]
  exact e
theorem flat_len : ∀ zs : List (List Nat), (∀ z ∈ zs, z.length ≤ 9) → zs.flatten.length ≤ 9 * zs.length
  | [], _ => Nat.le_refl _
  | z :: r, h => by
    have a := flat_len r fun y hy => h y (List.mem_cons_of_mem _ hy)
    have b := h z List.mem_cons_self
    rw [List.flatten_cons, List.length_append, List.length_cons]; omega
theorem sum_len : ∀ zs : List (List Nat), (∀ z ∈ zs, z.length ≤ 9) → ((zs.map fun z => (⟨z.toArray⟩ : Str)).map (·.length)).sum ≤ 9 * zs.length
  | [], _ => Nat.le_refl _
  | z :: r, h => by
    have a := sum_len r fun y hy => h y (List.mem_cons_of_mem _ hy)
    have b := h z List.mem_cons_self
    rw [List.map_cons, List.map_cons, List.sum_cons, List.length_cons, len_arr]; omega
theorem dt_dp {K : PySem.W.Frag} {H G : Hp} (k : ∀ b o, H b = some o → G b = some o) : ∀ (ws : List Wd) {xs : List V}, DtAll H xs (ws.map dW) → DpAll K G xs (ws.map dW)
  | [], _, .nil => .nil
  | x :: r, _, .cons a t => by
    obtain ⟨t0, rfl, e⟩ := dt_word a
    exact .cons (.tup (SqT.of (k _ _ e)) (.cons (.str _) (.cons (.int _) (.cons (.int _) .nil)))) (dt_dp k r t)
theorem tab_far {H G : Hp} {T Tn : Addr} (h : Tn ≠ T) (k : ∀ b o, b ≠ T → H b = some o → G b = some o) (t : TabG H Tn) : TabG G Tn := by
  obtain ⟨ps, e, q⟩ := t
  exact ⟨ps, k _ _ h e, q⟩
theorem dr_keepT {H G : Hp} {d wp cp T : Addr} {n : Nat} (t : TabG H T) (k : ∀ b o, b ≠ T → H b = some o → G b = some o) (D : Dr H d wp cp n) : Dr G d wp cp n := by
  obtain ⟨ps, e, _⟩ := t
  obtain ⟨ws, cs, r, u, a, b⟩ := D
  have n1 : d ≠ T := fun y => by rw [← y, a.dc] at e; cases e
  have n2 : wp ≠ T := fun y => by rw [← y, a.wl] at e; cases e
  have n3 : cp ≠ T := fun y => by rw [← y, a.cl] at e; cases e
  exact ⟨ws, cs, r, u, ⟨k _ _ n1 a.dc, k _ _ n2 a.wl, k _ _ n3 a.cl, a.cb, a.cn, a.wn, a.t0, a.nwc⟩, b⟩
theorem del_some {G : Hp} {p b : Addr} {o : HO} (h : del G p b = some o) : G b = some o ∧ b ≠ p := by
  by_cases e : b = p
  · rw [e, del_same] at h; cases h
  · rw [del_ne e] at h; exact ⟨h, e⟩
theorem cut_last (xs : List V) (v : V) : cutV (xs ++ [v]) none (some (-1)) = xs := by
  unfold cutV
  have e : HT.sIx (xs ++ [v]).length (xs ++ [v]).length (some (-1)) = xs.length := by
    unfold HT.sIx
    show (if (-1 : Int) < 0 then ((-1 : Int) + ((xs ++ [v]).length : Int)).toNat else min ((-1 : Int)).toNat (xs ++ [v]).length) = _
    rw [if_pos (by decide), List.length_append]
    show ((-1 : Int) + ((xs.length + 1 : Nat) : Int)).toNat = _
    omega
  rw [e, HT.sIx_none, Nat.sub_zero, List.drop_zero, List.take_left]
theorem tab_z (z : List Nat) : ((⟨z.toArray⟩ : Str) ++ ("\t" : Str)) = ⟨(z ++ [9]).toArray⟩ ∧ (("\t" : Str) ++ (⟨z.toArray⟩ : Str)) = ⟨(9 :: z).toArray⟩ ∧ (z ++ [9]).all sgn = false ∧ (9 :: z).all sgn = false := by
  have e : ("\t" : Str) = (⟨([9] : List Nat).toArray⟩ : Str) := by decide +kernel
  have s9 : sgn 9 = false := by decide +kernel
  rw [e]
  refine ⟨congrArg Str.mk (by simp), congrArg Str.mk (by simp), ?_, ?_⟩
  · rw [List.all_append, List.all_cons, s9]; simp
  · rw [List.all_cons, s9]; rfl
theorem dr_T {H G : Hp} {d wp cp T : Addr} {n : Nat} (t : TabG H T) (t' : TabG G T) (k : ∀ b o, b ≠ T → H b = some o → G b = some o) (D : Dr H d wp cp n) : Dr G d wp cp n := dr_keepT t k D
section
variable {P : Program} {w : World} {K : PySem.W.Frag} {mg : Str → Option Value} {base : Heap} {PE C T Tn kp : Addr}
theorem law_run {fa fw : Addr} {fd wd : FuncData} (F : Fun K "law" "law" sLaw fa fd) (hbf : ∀ (s : Shared) (u : Value), BindsTo s fd ⟨[u], []⟩ [(("script" : Str), u)]) (hs : ∃ mm, base.Ns sysModules mm)
    (B : DefOk P w K mg base "_law_begun" 1 ["script"] (spBegun K)) (Pk : DefOk P w K mg base "_law_pick" 3 ["draw", "some"] spPick) (Ke : DefOk P w K mg base "_law_kept" 1 [] spKept) (Pi : DefOk P w K mg base "_law_piece" 5 ["draw"] spPiece) (Cu : DefOk P w K mg base "_law_cut" 2 ["text"] spCut) (Na : DefOk P w K mg base "_law_names_right" 5 ["draw"] (spNames Tn))
    (mw : mg "words_of" = some (.ref fw)) (kw : PySem.W.keepIn K (.ref fw) = true) (Fw : FnOk P w K mg base (L2.CX P w) 3 fw wd ["text"] (spWords K T C)) (bw : Binds K wd ["text"] []) (bwk : KBinds K wd ["text"] ["text"] (fun us ws => us ++ ws) (fun vs zs => vs ++ zs))
    (mk : mg "KEPT" = some (.ref kp)) (ktv : ∀ H, SqT K H kp keptV) (mP : mg "PageError" = some (.ref PE)) (mB : mg "BadText" = some (.ref C)) (E1 : ErrC K PE C) (hex : PySem.W.exmOne K (.ref C) (.ref PE) = some true) (no1 : ∀ n, n ∈ nsB → PySem.W.findIn K (.ref C) n = some none)
    (ml : mg "len" = none) (mmin : mg "min" = none) (mra : mg "range" = none) (mtu : mg "tuple" = none) (mr : mg "repr" = none) (mi : mg "isinstance" = none) {s : Shared} {H : Hp} {a : Addr} {ns : List Int}
    (e0 : Env0 P w K mg base callerA [] s H) (hS : SqL K H a (ns.map V.int)) (hn : ns.length ≤ 63) (tT : TabG H T) (tTn : TabG H Tn) (hTT : Tn ≠ T) : codeAny (model P w) callerA (.call (.ref fa) ⟨[.ref a], []⟩) (CR CX0 [] P w H s (fun v _ => v = .bl true) E0) s := by
  obtain ⟨f1, g1, m1, k1, o1, b1⟩ := B
  obtain ⟨f2, g2, m2, k2, o2, b2⟩ := Pk
  obtain ⟨f3, g3, m3, k3, o3, b3⟩ := Ke
  obtain ⟨f4, g4, m4, k4, o4, b4⟩ := Pi
  obtain ⟨f5, g5, m5, k5, o5, b5⟩ := Cu
  obtain ⟨f6, g6, m6, k6, o6, b6⟩ := Na
  obtain ⟨oc, od, kV, doc, pm, an, cdv, ct, osl, rfl, lk, hcd⟩ := F.ex
  have rm : ∀ env, Room 20 (callerA.deeper env) := fun env => ⟨rfl, by show callerA.depth + 1 + 3 * 20 + 5 < recursionLimit; decide, by show callerA.units + 3 + 16 * 20 + 200 < cLine; decide⟩
  refine Lw.run_at (k := 20) (CX := CX0) (N := NL) (ps := ["script"]) (us := [.ref a]) (vs := [.ref a]) lk hcd scLaw ⟨rfl, by decide, by decide⟩ e0 (hbf s (.ref a)) (.cons rfl .nil) rfl
    (PSs.nox (pss_cons (ps_set (i := 1) scLaw.nd rfl (by first | exact Or.inl rfl | exact Or.inr rfl) (pe_call o1 ((rm _).mono (by decide)) rfl m1 k1 b1 .nil pass0 (pa_cons (pv 0) pa_nil)))
    (pss_cons (ps_if (pt_cmpR (op_neD (rm _).units) (pe_glob (v := .ref kp) (by rfl) mk rfl) (pe_callTy call_tuple_of (by rfl) mtu (by decide +kernel) (pa_cons (pe_call0 o3 ((rm _).mono (by decide)) rfl m3 k3 b3 .nil pass0) pa_nil)) (nomark _)) (pss_one (ps_ret pe_bl)) pss_nil)
    (pss_cons (ps_for PassesOwn.never rfl (pi_range1 (by rfl) mra (pa_cons (pe_op op_add pe_int (pe_callB (call_min2 rfl) (by rfl) mmin (by decide +kernel) (pa_cons (pe_callB call_len_seq (by rfl) ml PySem.boot_len (pa_cons (pv 0) pa_nil)) (pa_cons pe_int pa_nil)))) pa_nil)) (pg_name (i := 2) scLaw.nd rfl (Or.inl rfl))
      (pss_cons (ps_set (i := 3) scLaw.nd rfl (Or.inl rfl) (pe_join pe_str (pe_lc (own := [("k", 8)]) (g := gName 8) (tt := tYes) (te := tCall spPiece [] E0 (tCons (tVar 1) tNil)) (by rfl) scLaw.nd (pi_range1 (by rfl) mra (pa_cons (pe_call o2 ((rm _).mono (by decide)) rfl m2 k2 b2 .nil pass0 (pa_cons (pv 1) (pa_cons (pe_lst (pa_cons pe_int (pa_cons pe_int (pa_cons pe_int (pa_cons pe_int (pa_cons pe_int (pa_cons pe_int (pa_cons pe_int pa_nil)))))))) pa_nil))) pa_nil)) (blkOk_by (own := [("k", 8)]) (N := NL) (sc := defScope sLaw) (by decide +kernel)) (fun _ _ _ _ _ => pg_name (i := 8) scLaw.nd rfl (Or.inl rfl)) (fun _ _ _ _ _ => pts_nil)
        (fun _ _ _ _ _ => pe_call o4 ((rm _).mono (by decide)) rfl m4 k4 b4 .nil pass0 (pa_cons (pv 1) pa_nil)))))
      (pss_cons (ps_set (i := 4) scLaw.nd rfl (Or.inl rfl) (pe_call Fw ((rm _).mono (by decide)) rfl mw kw bw .nil passL (pa_cons (pv 3) pa_nil)))
      (pss_cons (ps_if (PW.pt (pw_or (pt_cmpR op_ne (pe_callB (call_reprD rfl (by show callerA.units + 3 + 100 < cLine; decide) hs) (by rfl) mr (by decide +kernel) (pa_cons (pv 4) pa_nil)) (pe_callB (call_reprD rfl (by show callerA.units + 3 + 100 < cLine; decide) hs) (by rfl) mr (by decide +kernel) (pa_cons (pe_call o5 ((rm _).mono (by decide)) rfl m5 k5 b5 .nil pass0 (pa_cons (pv 3) pa_nil)) pa_nil)) (nomark _)) (pw_or1 (pt_not (pt_val (pe_call o6 ((rm _).mono (by decide)) rfl m6 k6 b6 .nil pass0 (pa_cons (pv 1) pa_nil))))))) (pss_one (ps_ret pe_bl)) pss_nil)
      (pss_cons (ps_expr (pe_bm PySem.F.plainAttrs_list PySem.F.slot_list_append PySem.F.type_list_append mt_append (pv 4) (pa_cons (pe_tup (pa_cons pe_str (pa_cons pe_int (pa_cons pe_int pa_nil)))) pa_nil)))
      (pss_cons (ps_if (pt_cmpR (op_neD (rm _).units) (pe_kw0 Fw ((rm _).mono (by decide)) rfl mw kw bwk passL (pk_cons (pv 3) pk_nil)) (pe_slice sl_list (pv 4) po_none (po_some (pe_un un_neg pe_int))) (nomark _)) (pss_one (ps_ret pe_bl)) pss_nil)
      (pss_cons (ps_set (i := 5) scLaw.nd rfl (Or.inl rfl) (pe_call o2 ((rm _).mono (by decide)) rfl m2 k2 b2 .nil pass0 (pa_cons (pv 1) (pa_cons (pe_lst (pa_cons pe_non (pa_cons pe_int (pa_cons pe_bl (pa_cons (pe_lst (pa_cons (pv 3) pa_nil)) (pa_cons (pe_tup (pa_cons (pv 3) pa_nil)) (pa_cons pe_dnewK (pa_cons (pe_op op_add_str (pv 3) pe_str) (pa_cons (pe_op op_add_str pe_str (pv 3)) (pa_cons (pe_lst (pa_cons pe_str (pa_cons pe_str pa_nil))) (pa_cons pe_int pa_nil))))))))))) pa_nil))))
      (pss_cons (ps_set (i := 6) scLaw.nd rfl (Or.inl rfl) pe_non)
      (pss_cons (ps_try_own (i := 7) (ts := tAsg (tVar 7) (gName 6)) rfl rfl scLaw.nd rfl rfl ⟨by rfl, by decide, .inl mP⟩ rfl (fun W pn xe tk _ => pss_one (ps_expr (pe_callE Fw tk ((rm _).mono (by decide)) rfl mw kw bw (pa_cons (pv 5) pa_nil)))) (fun a pn => pss_one (ps_set (i := 6) scLaw.nd rfl (Or.inl rfl) (pv 7))))
      (pss_one (ps_if (PW.pt (pw_or (pt_not (pt_val (pe_callB call_isV (by rfl) mi (by decide +kernel) (pa_cons (pv 6) (pa_cons (pe_glob (v := .ref C) (by rfl) mB rfl) pa_nil))))) (pw_or1 (pt_cmpR (op_neD (rm _).units) (pe_tup (pa_cons (pe_va (pv 6)) (pa_cons (pe_va (pv 6)) (pa_cons (pe_va (pv 6)) pa_nil)))) (pe_tup (pa_cons pe_non (pa_cons pe_non (pa_cons pe_non pa_nil)))) (nomark _))))) (pss_one (ps_ret pe_bl)) pss_nil)))))))))))
    (pss_one (ps_ret pe_bl)))))) ?_
  refine ⟨_, rfl, a, ns, rfl, hS, hn, fun d wp cp H1 nd nw' nc D s1 => ?_⟩
  have t1 := tab_keep s1 tT
  have t1n := tab_keep s1 tTn
  have hS1 : SqL K H1 a (ns.map V.int) := Same.seq s1 hS
  -- the kept words
  refine ⟨rfl, fun p np => ⟨p, keptV, rfl, .inl ⟨SqL.of upd_same, fun l nl => ?_⟩⟩⟩
  have k2 : ∀ b o, H1 b = some o → (upd (upd H1 p (.lst keptV)) l (.tup keptV)) b = some o := fun b o e => new_same nl b o (new_same np b o e)
  refine ⟨.tuple (keptS.map PyData.str), .tuple (keptS.map PyData.str), .tup (ktv _) (dp_strs keptS), .tup (SqT.of upd_same) (dp_strs keptS), by decide +kernel, by decide +kernel, _, rfl, iteF' (by decide +kernel) ?_⟩
  generalize upd (upd H1 p (.lst keptV)) l (.tup keptV) = H2 at k2
  have hS2 : SqL K H2 a (ns.map V.int) := Same.seq k2 hS1
  have D2 := dr_same k2 D
  have t2 := tab_keep k2 t1
  have t2n := tab_keep k2 t1n
  -- the turns
  refine ⟨_, rfl, a, _, rfl, .inl hS2, _, _, rfl, _, _, rfl, rfl, _, rfl, ?_, ?_, ?_⟩
  · rw [List.length_map]; split <;> omega
  · rw [List.length_map]; split <;> omega
  have nine : (3 + if (6 : Int) < ((ns.map V.int).length : Int) then (6 : Int) else ((ns.map V.int).length : Int)).toNat ≤ 9 := by split <;> omega
  generalize (3 + if (6 : Int) < ((ns.map V.int).length : Int) then (6 : Int) else ((ns.map V.int).length : Int)).toNat = m at nine
  refine for_range (lo := 0) (n := m) (fun i σ G => ∃ o2 o3 o4 o5 o6 o7 : Option V, σ = [some (.ref a), some (.ref d), o2, o3, o4, o5, o6, o7, none] ∧ TabG G T ∧ TabG G Tn ∧ Dr G d wp cp (999999999 - 5000 * i)) ⟨none, none, none, none, none, none, rfl, t2, t2n, D2⟩ (fun i σ G hi h => ?_) (fun σ G h => rfl)
  obtain ⟨o2, o3, o4, o5, o6, o7, rfl, tb, tbn, DG⟩ := h
  -- the text
  refine ⟨⟨_, rfl⟩, _, rfl, (show 7 ≤ sizeLine by decide), fun q nq => ⟨d, wp, cp, q, 999999998 - 5000 * i, _, rfl, dr_le (by omega) (dr_new nq DG), upd_same, dr_nwp DG nq, (show 0 < 7 by decide), (show 7 < 1000000 by decide), fun i' y H4 hy D4 B4 => ?_⟩⟩
  have B5 := But.trans (but_new nq) B4
  obtain ⟨j, rfl, j60⟩ : ∃ j : Nat, y = .int (j : Int) ∧ j ≤ 60 := by
    have m := List.mem_of_getElem? hy
    simp only [List.mem_cons, List.not_mem_nil, or_false] at m
    rcases m with rfl | rfl | rfl | rfl | rfl | rfl | rfl
    · exact ⟨0, rfl, by decide⟩
    · exact ⟨1, rfl, by decide⟩
    · exact ⟨2, rfl, by decide⟩
    · exact ⟨5, rfl, by decide⟩
    · exact ⟨12, rfl, by decide⟩
    · exact ⟨30, rfl, by decide⟩
    · exact ⟨60, rfl, by decide⟩
  refine ⟨(j : Int), rfl, by omega, by omega, fun L nL => ?_⟩
  have far := dr_far D4 nL
  refine lc_range (lo := 0) (n := j) (fun i2 G2 => ∃ zs : List (List Nat), G2 L = some (.lst ((zs.map fun z => (⟨z.toArray⟩ : Str)).map V.str)) ∧ zs.length = i2 ∧ (∀ z ∈ zs, Sg z) ∧ (∀ z ∈ zs, z.length ≤ 9) ∧ Dr G2 d wp cp (999999998 - 5000 * i - 30 * i2) ∧ But d wp H4 G2) ⟨[], upd_same, rfl, (fun z hz => nomatch hz), (fun z hz => nomatch hz), dr_put D4 far, but_new nL⟩ (fun i2 G2 hi2 h => ?_) (fun G2 h => ?_)
  · obtain ⟨zs, hL, lz, sg, s9, DG2, BG⟩ := h
    refine ⟨rfl, _, rfl, d, wp, cp, 999999998 - 5000 * i - 30 * i2 - 30, rfl, dr_le (by omega) DG2, fun z H5 sz l9 D5 B6 => ⟨_, B6 _ _ hL far.1 far.2.1, by rw [List.length_map, List.length_map, lz, sizeLine_eq]; omega, zs ++ [z], ?_, by rw [List.length_append, lz]; rfl, fun u hu => ?_, fun u hu => ?_, dr_put (dr_le (by omega) D5) far, fun b o e h1 h2 => ?_⟩⟩
    · rw [upd_same, List.map_append, List.map_append]; rfl
    · rcases List.mem_append.mp hu with h | h
      · exact sg u h
      · rw [List.mem_singleton.mp h]; exact sz
    · rcases List.mem_append.mp hu with h | h
      · exact s9 u h
      · rw [List.mem_singleton.mp h]; exact l9
    · rw [upd_ne (fun y => by rw [y, nL] at e; cases e)]
      exact B6 b o (BG b o e h1 h2) h1 h2
  obtain ⟨zs, hL, lz, sg, s9, DG2, BG⟩ := h
  have fl := flat_len zs s9
  refine ⟨"", L, zs.map fun z => (⟨z.toArray⟩ : Str), rfl, rfl, .inl (SqL.of hL), ?_, ?_⟩
  · have q1 := sum_len zs s9
    rw [List.length_map, show ("" : Str).length = 0 by decide +kernel]; omega
  rw [join_texts]
  have sgz : zs.flatten.all sgn = true := List.all_eq_true.mpr fun c hc => by
    obtain ⟨z, hz, hc⟩ := List.mem_flatten.mp hc
    exact sg z hz c hc
  have zl : zs.flatten.length ≤ 540 := by omega
  have z127 : ∀ c ∈ zs.flatten, c < 127 := fun c hc => sgn_lt (List.all_eq_true.mp sgz c hc)
  have tG2 := tab_but DG (But.trans B5 BG) tb
  have tG2n := tab_but DG (But.trans B5 BG) tbn
  generalize zs.flatten = z at sgz zl z127
  have DG3 : Dr G2 d wp cp (999999998 - 5000 * i - 2000) := dr_le (by omega) DG2
  clear hL lz sg s9 DG2 fl zs
  -- its words
  refine ⟨_, rfl, _, rfl, tG2, .inr ⟨z, rfl, sgz, by omega, fun pt G3 tl => ?_⟩⟩
  obtain ⟨sh, sw, sd⟩ := words_ok z127 (by omega)
  have sl := words_shown z127 (show z.length ≤ 600 by omega)
  obtain ⟨xs, hp3, dt3, le3⟩ := tl.ex
  have dW3 : Dt G3 (.ref pt) (wordsD z) := .lst hp3 (dt3.same fun b o e => (nw_iff.mp e).2)
  refine ⟨_, rfl, pt, wordsD z, rfl, dW3, sw, sd, sl, _, rfl, z, rfl, z127, by omega, fun pc qc Lc G4 ld => ?_⟩
  obtain ⟨xs4, hp4, dt4, le4⟩ := ld.ex
  refine ⟨pc, wordsD z, rfl, .lst hp4 (dt4.same fun b o e => (nw_iff.mp e).2), sw, sd, sl, rfl, _, rfl, iteF' (by simp) ?_⟩
  -- names
  have D3' := dr_keepT tG2 (fun b o bT e => (del_some (tl.sm b o bT e)).1) DG3
  have k34 : ∀ b o, G3 b = some o → G4 b = some o := fun b o e => (del_some (ld.sm b o e)).1
  have D4' := dr_same k34 D3'
  have t4 := tab_keep k34 tl.tb
  have t3n := tab_far hTT (fun b o bT e => (del_some (tl.sm b o bT e)).1) tG2n
  have t4n := tab_keep k34 t3n
  refine ⟨_, rfl, d, wp, cp, 999999998 - 5000 * i - 2100, rfl, dr_le (by omega) D4', t4n, fun G5 D5 t5n k5 => ⟨true, rfl, iteF' rfl ?_⟩⟩
  have t5 : TabG G5 T := by
    obtain ⟨ps, e, h⟩ := t4
    obtain ⟨ws, cs, r, u, aa, _⟩ := D4'
    exact ⟨ps, k5 _ _ (fun y => by rw [y, aa.dc] at e; cases e) (fun y => by rw [y, aa.wl] at e; cases e) (Ne.symm hTT) e, h⟩
  obtain ⟨pd, pw, pc'⟩ := dr_far DG3 tl.np
  have pT : pt ≠ T := fun y => by
    obtain ⟨ps, e, _⟩ := tG2
    have n := tl.np
    rw [y, e] at n; cases n
  have pTn : pt ≠ Tn := fun y => by
    obtain ⟨ps, e, _⟩ := tG2n
    have n := tl.np
    rw [y, e] at n; cases n
  have hp5 : G5 pt = some (.lst xs) := k5 _ _ pd pw pTn (k34 _ _ hp3)
  have k25 : ∀ b o, G2 b = none → G3 b = some o → G5 b = some o := fun b o n e => by
    refine k5 b o (fun y => ?_) (fun y => ?_) (fun y => ?_) (k34 b o e)
    · obtain ⟨ws, cs, r, u, aa, _⟩ := DG3
      rw [y, aa.dc] at n; cases n
    · obtain ⟨o', eo⟩ := dr_wp DG3
      rw [y, eo] at n; cases n
    · obtain ⟨ps, eo, _⟩ := tG2n
      rw [y, eo] at n; cases n
  have dt5 : DtAll (nw G2 G5 pt) xs ((words z).map dW) := dt3.same fun b o e => by
    obtain ⟨n, e⟩ := nw_iff.mp e
    exact nw_iff.mpr ⟨n, k25 b o n.1 e⟩
  have wl := words_len z
  -- one more
  refine ⟨_, rfl, Or.inl ⟨rfl, _, Or.inl (Or.inl hp5)⟩, (show 3 ≤ sizeLine by decide), fun t6 nt6 => ?_⟩
  have tp6 : t6 ≠ pt := fun y => by rw [y, hp5] at nt6; cases nt6
  refine ⟨pt, xs, .ref t6, rfl, rfl, (upd_ne (Ne.symm tp6)).trans hp5, by rw [le3, sizeLine_eq]; omega, ?_⟩
  have k57 : ∀ b o, b ≠ pt → G5 b = some o → (upd (upd G5 t6 (.tup [.str "a", .int 1, .int 1])) pt (.lst (xs ++ [.ref t6]))) b = some o := fun b o bp e => by rw [upd_ne bp]; exact new_same nt6 b o e
  have hp7 : (upd (upd G5 t6 (.tup [.str "a", .int 1, .int 1])) pt (.lst (xs ++ [.ref t6]))) pt = some (.lst (xs ++ [.ref t6])) := upd_same
  have dt7 : DtAll (nw G2 (upd (upd G5 t6 (.tup [.str "a", .int 1, .int 1])) pt (.lst (xs ++ [.ref t6]))) pt) xs ((words z).map dW) := dt5.same fun b o e => by
    obtain ⟨n, e⟩ := nw_iff.mp e
    exact nw_iff.mpr ⟨n, k57 b o n.2 e⟩
  have D7 : Dr (upd (upd G5 t6 (.tup [.str "a", .int 1, .int 1])) pt (.lst (xs ++ [.ref t6]))) d wp cp (999999998 - 5000 * i - 2130) := dr_put (dr_new nt6 (dr_le (by omega) D5)) ⟨pd, pw, pc'⟩
  have t7 : TabG (upd (upd G5 t6 (.tup [.str "a", .int 1, .int 1])) pt (.lst (xs ++ [.ref t6]))) T := by
    obtain ⟨ps, e, h⟩ := t5
    exact ⟨ps, k57 _ _ (Ne.symm pT) e, h⟩
  have t7n : TabG (upd (upd G5 t6 (.tup [.str "a", .int 1, .int 1])) pt (.lst (xs ++ [.ref t6]))) Tn := by
    obtain ⟨ps, e, h⟩ := t5n
    exact ⟨ps, k57 _ _ (Ne.symm pTn) e, h⟩
  generalize upd (upd G5 t6 (.tup [.str "a", .int 1, .int 1])) pt (.lst (xs ++ [.ref t6])) = G7 at hp7 dt7 D7 t7 t7n
  -- the words again
  refine ⟨_, rfl, _, rfl, t7, .inr ⟨z, rfl, sgz, by omega, fun p8 G8 tl8 => ?_⟩⟩
  obtain ⟨xs8, hp8, dt8, le8⟩ := tl8.ex
  have k78 : ∀ b o, b ≠ T → G7 b = some o → G8 b = some o := fun b o bT e => (del_some (tl8.sm b o bT e)).1
  have hpt8 : G8 pt = some (.lst (xs ++ [.ref t6])) := k78 _ _ pT hp7
  refine ⟨_, rfl, 1, rfl, -1, rfl, pt, _, rfl, SqL.of hpt8, fun p9 np9 => ?_⟩
  rw [cut_last]
  have eqr : PyData.eqv (wordsD z) (wordsD z) = true := PySem.SeqAt.eqv_refl _ (SeqAt.canLay_of_shaped sh)
  have k27 : ∀ b o, nw G2 G7 pt b = some o → (upd G8 p9 (.lst xs)) b = some o := fun b o e => by
    obtain ⟨n, e⟩ := nw_iff.mp e
    refine new_same np9 b o (k78 b o (fun y => ?_) e)
    obtain ⟨ps, eo, _⟩ := tG2
    rw [y, eo] at n; cases n.1
  refine ⟨wordsD z, wordsD z, .lst (SqL.of (new_same np9 _ _ hp8)) (dt_dp (fun b o e => new_same np9 _ _ (nw_iff.mp e).2) _ dt8), .lst (SqL.of upd_same) (dt_dp k27 _ dt7), sh, sh, _, rfl, iteF' (by rw [eqr]; rfl) ?_⟩
  have D9 : Dr (upd G8 p9 (.lst xs)) d wp cp (999999998 - 5000 * i - 2130) := dr_new np9 (dr_keepT t7 k78 D7)
  have t9 : TabG (upd G8 p9 (.lst xs)) T := tab_keep (new_same np9) tl8.tb
  have t9n : TabG (upd G8 p9 (.lst xs)) Tn := tab_keep (new_same np9) (tab_far hTT k78 t7n)
  generalize upd G8 p9 (.lst xs) = G9 at D9 t9 t9n
  clear k27 eqr hpt8 k78 le8 dt8 hp8 xs8 tl8 np9 dt7 hp7 wl dt5 k25 hp5 pT pTn pd pw pc' k34 D3' ld dt4 hp4 le4 dW3 le3 dt3 hp3 tl
  -- the odd value
  have gz : Gd 540 ⟨z.toArray⟩ := ⟨z, rfl, z127, zl⟩
  have zsz : ∀ {b : Str}, b.length ≤ 1 → (⟨z.toArray⟩ : Str).length + b.length ≤ sizeLine ∧ b.length + (⟨z.toArray⟩ : Str).length ≤ sizeLine := fun {b} h => by rw [len_arr, sizeLine_eq]; omega
  have tabl : ("\t" : Str).length ≤ 1 := by decide +kernel
  refine ⟨_, rfl, _, rfl, (show 1 ≤ sizeLine by decide), fun a1 n1 => ?_⟩
  have e1 : ∃ ys, (upd G9 a1 (.lst [V.str ⟨z.toArray⟩])) a1 = some (.lst ys) := ⟨_, upd_same⟩
  have k1 := new_same (o := .lst [V.str ⟨z.toArray⟩]) n1
  generalize upd G9 a1 (.lst [V.str ⟨z.toArray⟩]) = E1' at e1 k1
  refine ⟨_, rfl, (show 1 ≤ sizeLine by decide), fun a2 n2 => ?_⟩
  have e2 : ∃ ys, (upd E1' a2 (.tup [V.str ⟨z.toArray⟩])) a2 = some (.tup ys) := ⟨_, upd_same⟩
  have k2' := new_same (o := .tup [V.str ⟨z.toArray⟩]) n2
  generalize upd E1' a2 (.tup [V.str ⟨z.toArray⟩]) = E2' at e2 k2'
  refine fun a3 n3 => ?_
  have e3 : ∃ ys, (upd E2' a3 (.dK [])) a3 = some (.dK ys) := ⟨_, upd_same⟩
  have k3' := new_same (o := .dK []) n3
  generalize upd E2' a3 (.dK []) = E3' at e3 k3'
  refine ⟨_, rfl, _, _, rfl, rfl, (zsz tabl).1, _, rfl, _, _, rfl, rfl, (zsz tabl).2, (show 2 ≤ sizeLine by decide), fun a4 n4 => ?_⟩
  have e4 : ∃ ys, (upd E3' a4 (.lst [V.str "a", V.str "b"])) a4 = some (.lst ys) := ⟨_, upd_same⟩
  have k4' := new_same (o := .lst [V.str "a", V.str "b"]) n4
  generalize upd E3' a4 (.lst [V.str "a", V.str "b"]) = E4' at e4 k4'
  refine ⟨(show 10 ≤ sizeLine by decide), fun a5 n5 => ?_⟩
  have k5' : ∀ {o : HO} b u, E4' b = some u → (upd E4' a5 o) b = some u := fun {o} => new_same n5
  have kO : ∀ {o : HO} b u, G9 b = some u → (upd E4' a5 o) b = some u := fun {o} b u e => k5' b u (k4' b u (k3' b u (k2' b u (k1 b u e))))
  refine ⟨d, wp, cp, a5, 999999998 - 5000 * i - 2131, _, rfl, dr_same kO (dr_le (by omega) D9), upd_same, dr_nwp (dr_same (fun b u e => k4' b u (k3' b u (k2' b u (k1 b u e)))) D9) n5, (show 0 < 10 by decide), (show 10 < 1000000 by decide), fun i5 y GO hy DO BO => ?_⟩
  have D1' := dr_same k1 D9
  have D2'' := dr_same k2' D1'
  have D3'' := dr_same k3' D2''
  have D4'' := dr_same k4' D3''
  have f1 := dr_far D9 n1
  have f2 := dr_far D1' n2
  have f3 := dr_far D2'' n3
  have f4 := dr_far D3'' n4
  have tO : TabG GO T := tab_but (dr_same k5' D4'') BO (tab_keep kO t9)
  have tOn : TabG GO Tn := tab_but (dr_same k5' D4'') BO (tab_keep kO t9n)
  have odd : NoStr K GO y ∨ ∃ z' : List Nat, y = .str ⟨z'.toArray⟩ ∧ z'.all sgn = false := by
    obtain ⟨y1, e1⟩ := e1
    obtain ⟨y2, e2⟩ := e2
    obtain ⟨y3, e3⟩ := e3
    obtain ⟨y4, e4⟩ := e4
    obtain ⟨tz1, tz2, tz3, tz4⟩ := tab_z z
    have m := List.mem_of_getElem? hy
    simp only [List.mem_cons, List.not_mem_nil, or_false] at m
    rcases m with rfl | rfl | rfl | rfl | rfl | rfl | rfl | rfl | rfl | rfl
    · exact .inl ⟨_, .base .non, by rfl⟩
    · exact .inl ⟨_, .base (.int 5), by rfl⟩
    · exact .inl ⟨_, .base (.bl true), by rfl⟩
    · exact .inl ⟨_, .base (.lst (BO _ _ (k5' _ _ (k4' _ _ (k3' _ _ (k2' _ _ e1)))) f1.1 f1.2.1)), by rfl⟩
    · exact .inl ⟨_, .base (.tup (BO _ _ (k5' _ _ (k4' _ _ (k3' _ _ e2))) f2.1 f2.2.1)), by rfl⟩
    · exact .inl ⟨_, .base (.dK (BO _ _ (k5' _ _ (k4' _ _ e3)) f3.1 f3.2.1)), by rfl⟩
    · exact .inr ⟨_, congrArg V.str tz1, tz3⟩
    · exact .inr ⟨_, congrArg V.str tz2, tz4⟩
    · exact .inl ⟨_, .base (.lst (BO _ _ (k5' _ _ e4) f4.1 f4.2.1)), by rfl⟩
    · exact .inl ⟨_, .base (.int 0), by rfl⟩
  clear e1 e2 e3 e4 f1 f2 f3 f4 hy BO D1' D2'' D3'' D4''
  -- the try
  refine ⟨_, rfl, y, rfl, tO, .inl ⟨odd, fun dd G' t' k' ndd hdd => ⟨hex, fun ae nae => ⟨_, rfl, ?_⟩⟩⟩⟩
  have de : dd ≠ ae := fun y => by rw [← y, hdd] at nae; cases nae
  have ke : KErv (upd G' ae (exv ae (.ref C) (some dd))) ae C noneB := ⟨dd, upd_same, by rw [upd_ne de]; exact hdd⟩
  have DE : Dr (upd G' ae (exv ae (.ref C) (some dd))) d wp cp (999999998 - 5000 * i - 2131) := dr_new nae (dr_keepT tO k' DO)
  have tE : TabG (upd G' ae (exv ae (.ref C) (some dd))) T := tab_keep (new_same nae) t'
  have tEn : TabG (upd G' ae (exv ae (.ref C) (some dd))) Tn := tab_keep (new_same nae) (tab_far hTT k' tOn)
  generalize upd G' ae (exv ae (.ref C) (some dd)) = GE at ke DE tE tEn
  have self : PySem.W.kitOne K (.ref C) (.ref C) = some true := by unfold PySem.W.kitOne; rw [if_pos (by simp)]
  refine ⟨_, rfl, ae, C, noneB, _, _, true, rfl, ke, E1.X, .own C, self, true, rfl, iteF' rfl ?_⟩
  refine ⟨_, rfl, ae, C, noneB, .non, rfl, ke, E1.F, no1 "line" (by simp), rfl, _, rfl, ae, C, noneB, .non, rfl, ke, E1.F, no1 "column" (by simp), rfl, _, rfl, ae, C, noneB, .non, rfl, ke, E1.F, no1 "wanted" (by simp), rfl, (show 3 ≤ sizeLine by decide), fun c1 nc1 => ⟨(show 3 ≤ sizeLine by decide), fun c2 nc2 => ?_⟩⟩
  refine ⟨.tuple [.none, .none, .none], .tuple [.none, .none, .none], .tup (SqT.of (new_same nc2 _ _ upd_same)) (.cons .non (.cons .non (.cons .non .nil))), .tup (SqT.of upd_same) (.cons .non (.cons .non (.cons .non .nil))), by decide +kernel, by decide +kernel, _, rfl, iteF' (by decide +kernel) ?_⟩
  exact ⟨_, _, _, _, _, _, rfl, tab_keep (fun b o e => new_same nc2 b o (new_same nc1 b o e)) tE, tab_keep (fun b o e => new_same nc2 b o (new_same nc1 b o e)) tEn, dr_le (by omega) (dr_new nc2 (dr_new nc1 DE))⟩
end
end Kz
set_option Elab.async false
set_option linter.all false
set_option maxRecDepth 100000
set_option maxHeartbeats 2000000
/-! The law's own frame, where tables of code objects are tracked from the start. -/
namespace Lt
open PySem PySem.Spec PyProof.Rows L2 GxR
section
variable {P : Program} {w : World} {K : PySem.W.Frag} {mg mb : Str → Option Value} {fa a : Addr} {s : Shared} {vs : List Value} {ns : List Int} {ts : List (Addr × Addr)}
def LawAtT (P : Program) (w : World) (K : PySem.W.Frag) (mg : Str → Option Value) (fa : Addr) (ts : List (Addr × Addr)) : Prop := ∀ (base : Heap) (s : Shared) (H : Hp) (a : Addr) (ns : List Int), K.In base → base.Ns mainGlobals mg → (∃ mm, base.Ns sysModules mm) → (∀ p ∈ ts, TabB base mg p.1 p.2) → (∀ p ∈ ts, TabG H p.2) → Env0 P w K mg base callerA [] s H → SqL K H a (ns.map V.int) → ns.length ≤ 63 →
  codeAny (model P w) callerA (.call (.ref fa) ⟨[.ref a], []⟩) (CR CX0 [] P w H s (fun v _ => v = .bl true) E0) s
theorem law_hereT (L : LawAtT P w K mg fa ts) (KX : K.In s.heap) (hns : s.heap.Ns mainGlobals mg) (hb : s.heap.Ns builtinsNs mb) (hbb : ∀ x : Str, x ≠ "__name__" → mb x = bootBuiltins x) (hlim : s.heap.NoLimit) (hsm : ∃ mm, s.heap.Ns sysModules mm) (hg : s.gens = #[])
    (hT : ∀ p ∈ ts, s.heap.get? p.2 = some { cls := .none, data := .fields #[] }) (nT : ∀ p ∈ ts, K.lookup p.2 = none) (C : ∀ p ∈ ts, PySem.W.CodeHd s.heap p.1 p.2)
    (hbm : ∃ (bm : Addr) (ob : Obj), mg "__builtins__" = some (.ref bm) ∧ bm ≠ builtinsNs ∧ s.heap.get? bm = some ob ∧ ob.cls = .type "module" ∧ ob.dict = some builtinsNs ∧ ob.data = .plain)
    (ha : s.heap.get? a = some { cls := .type "list", data := .seq vs.toArray }) (hi : IntsAre vs ns) (hl : ns.length ≤ 63) :
    codeAny (model P w) callerA (.call (.ref fa) ⟨[.ref a], []⟩) (fun r s' => r = .ok (.ret (.bool true)) ∧ OldK s.heap s'.heap ∧ s'.os = s.os ∧ AllBare s'.gens) s := by
  have l63 : ns.length ≤ sizeLine := Nat.le_trans hl (by decide)
  let isT : Addr → Prop := fun b => ∃ p ∈ ts, p.2 = b
  have tabOf : ∀ b, isT b → s.heap.get? b = some { cls := .none, data := .fields #[] } ∧ K.lookup b = none := fun b ⟨p, hp, e⟩ => by rw [← e]; exact ⟨hT p hp, nT p hp⟩
  have aT : ¬ isT a := fun y => by
    have q := (tabOf a y).1
    rw [ha] at q; cases q
  suffices main : ∀ H : Hp, (∀ b, isT b → H b = some (.tbl #[])) → (∀ b u, H b = some u → (isT b ∧ u = .tbl #[]) ∨ (b = a ∧ u = .frz { cls := .type "list", data := .seq vs.toArray } (.lst (ns.map V.int)) ∧ K.lookup a = none)) → SqL K H a (ns.map V.int) → codeAny (model P w) callerA (.call (.ref fa) ⟨[.ref a], []⟩) (fun r s' => r = .ok (.ret (.bool true)) ∧ OldK s.heap s'.heap ∧ s'.os = s.os ∧ AllBare s'.gens) s by
    classical
    cases hk : K.lookup a with
    | some o =>
      have e := (KX a o hk).symm.trans ha
      cases e
      refine main (fun b => if isT b then some (.tbl #[]) else none) (fun b y => if_pos y) (fun b u z => ?_) (.inr ⟨_, vs.toArray, _, hk, rfl, rfl, rfl, ?_, by simpa using vals_ints hi⟩)
      · by_cases y : isT b
        · exact .inl ⟨y, (Option.some.inj ((if_pos y).symm.trans z)).symm⟩
        · exact nomatch (if_neg y).symm.trans z
      · rw [List.size_toArray, hi.length]; exact l63
    | none =>
      refine main (fun b => if isT b then some (.tbl #[]) else if b = a then some (.frz { cls := .type "list", data := .seq vs.toArray } (.lst (ns.map V.int))) else none) (fun b y => if_pos y) (fun b u z => ?_) (.inl (.inr ⟨_, (if_neg aT).trans (if_pos rfl)⟩))
      by_cases y : isT b
      · exact .inl ⟨y, (Option.some.inj ((if_pos y).symm.trans z)).symm⟩
      · have z := (if_neg y).symm.trans z
        by_cases e : b = a
        · exact .inr ⟨e, (Option.some.inj ((if_pos e).symm.trans z)).symm, hk⟩
        · exact nomatch (if_neg e).symm.trans z
  intro H hH hO hS
  have keep : ∀ {b o}, s.heap.get? b = some o → o.data ≠ .fields #[] → (∀ xs n, o.data ≠ .seq xs n) → (hidT s.heap H).get? b = some o := fun {b o} e h1 h2 => by
    refine hidT_get e ?_
    cases q : H b with
    | none => rfl
    | some u =>
      rcases hO b u q with ⟨y, _⟩ | ⟨rfl, _⟩
      · rw [(tabOf b y).1] at e; cases e; exact (h1 rfl).elim
      · rw [ha] at e; cases e; exact (h2 _ _ rfl).elim
  have nsB : ∀ {b : Addr} {m : Str → Option Value}, s.heap.Ns b m → (hidT s.heap H).Ns b m := fun {b m} ⟨o, es, ep, e, d, r⟩ => ⟨o, es, ep, keep e (by rw [d]; exact fun z => nomatch z) (by rw [d]; exact fun _ _ z => nomatch z), d, r⟩
  have KB : K.In (hidT s.heap H) := fun b o e => by
    refine hidT_get (KX b o e) ?_
    cases q : H b with
    | none => rfl
    | some u =>
      rcases hO b u q with ⟨y, _⟩ | ⟨rfl, _, hk⟩
      · rw [(tabOf b y).2] at e; cases e
      · rw [hk] at e; cases e
  have hok : HOk P w H s.heap := fun b u e => by
    rcases hO b u e with ⟨y, rfl⟩ | ⟨rfl, rfl, _⟩
    · exact (tabOf b y).1
    · exact ⟨ha, by rw [List.length_map]; exact l63, vs, _, vals_ints hi, ha⟩
  have M : Mod K mg (hidT s.heap H) := ⟨KB, nsB hns, ⟨mb, nsB hb, hbb⟩, (fun ⟨mc, h1, h2⟩ => ⟨mc, nsB h1, h2⟩) hlim⟩
  have TB : ∀ p ∈ ts, TabB (hidT s.heap H) mg p.1 p.2 := fun p hp => by
    refine ⟨?_, ?_, fun z => ?_⟩
    · obtain ⟨o, us, file, tf, flags, tg, inF, text, tt, q1, q2, q3, q4, r⟩ := C p hp
      refine ⟨o, us, file, tf, flags, tg, inF, text, tt, keep q1 (fun z => ?_) (fun _ _ z => ?_), q2, q3, q4, r⟩
      · rw [q3] at z; injection z with z; rw [z] at q4; simp at q4
      · rw [q3] at z; cases z
    · obtain ⟨bm, ob, q1, q2, q3, q4, q5, q6⟩ := hbm
      refine ⟨bm, ob, q1, q2, fun y => ?_, fun y => ?_, keep q3 (by rw [q6]; exact fun z => nomatch z) (by rw [q6]; exact fun _ _ z => nomatch z), q4, q5, q6⟩
      · obtain ⟨o, es, ep, e, hd, _⟩ := hns
        rw [y, e] at q3; cases q3
        rw [hd] at q6; cases q6
      · rw [y, hT p hp] at q3; cases q3; cases q6
    · obtain ⟨o, es, ep, e, hd, _⟩ := hns
      rw [z, hT p hp] at e; cases e; cases hd
  have e0 : Env0 P w K mg (hidT s.heap H) callerA [] s H := ⟨rfl, M, fun b o e => of_hidT e, Nat.le_of_eq (hidT_size _ _), trivial, (fun b hb => absurd (show b ∈ ([] : List Addr) from hb) (by simp)), hok, AllBare.of_eq hg⟩
  refine codeAny_mono (L _ s H a ns KB (nsB hns) (hsm.imp fun _ z => nsB z) TB (fun p hp => ⟨#[], hH p.2 ⟨p, hp, rfl⟩, True.intro⟩) e0 hS hl) fun r s' h => ?_
  cases r with
  | error e => exact (show False from h).elim
  | ok fl =>
    cases fl with
    | next => exact (show False from h).elim
    | brk => exact (show False from h).elim
    | cont => exact (show False from h).elim
    | ret u =>
      obtain ⟨v, H', os, bare, un, hok', r', rfl⟩ := h
      obtain rfl : u = Value.bool true := r'
      have grown : ∀ b, isT b → ∃ more : Array Value, s'.heap.get? b = some { cls := .none, data := .fields more } := fun b y => by
        obtain ⟨more, z⟩ := un.tbls b #[] (hH b y)
        exact ⟨_, hok' b _ z⟩
      have same : ∀ b o, ¬ isT b → s.heap.get? b = some o → s'.heap.get? b = some o := fun b o nb e => by
        cases q : H b with
        | none => exact un.keep b o e q (fun z => nomatch (show b ∈ ([] : List Addr) from z)) (fun z => nomatch z)
        | some u =>
          rcases hO b u q with ⟨y, _⟩ | ⟨rfl, rfl, _⟩
          · exact (nb y).elim
          · have z := hok' b _ (un.frzs b _ _ q)
            rw [ha] at e; cases e
            exact z.1
      refine ⟨rfl, ⟨fun b o e => ?_, fun b o e => ?_⟩, os, bare⟩
      · rcases Classical.em (isT b) with y | y
        · obtain ⟨more, hm⟩ := grown b y
          obtain ⟨p, hp, rfl⟩ := y
          rw [hT p hp] at e; cases e
          exact .inr (.inl ⟨((C p hp).tab (hT p hp)).isCodeTable, rfl, #[], more, rfl, by rw [Array.empty_append]; exact hm⟩)
        · exact .inl (same b o y e)
      · rcases Classical.em (isT b) with y | y
        · obtain ⟨more, hm⟩ := grown b y
          exact ⟨_, hm⟩
        · exact ⟨o, same b o y e⟩
/-- the law over a head by facts -/
theorem walk_hereT {l : PySem.W.OpenLaw} {q : Program} {loose : List Str} {XP : (Str → Option Value) → Heap → Prop} {YP : World → Heap → Prop} {d : DefRec} (hn : l.most = some 63) (hdf : d.params.defaults = []) (hin : PyProof.Rows.importsNone q = true)
    (F : ∀ (w : World) (mg : Str → Option Value) (fa : Addr) (h : Heap), YP w h → h.Ns mainGlobals mg → mg d.name = some (.ref fa) → ∃ (K : PySem.W.Frag) (ts : List (Addr × Addr)), K.In h ∧ (∀ p ∈ ts, h.get? p.2 = some { cls := .none, data := .fields #[] }) ∧ (∀ p ∈ ts, K.lookup p.2 = none) ∧ (∀ p ∈ ts, PySem.W.CodeHd h p.1 p.2) ∧ LawAtT l.prog w K mg fa ts) :
    PySem.W.WalkO q loose XP YP l.row.toRowW d [] (fun f vs => PySem.call f vs) := by
  refine Att.attach_call hn hdf fun w s₀ s₁ mg mb fa o pm cd doc a vs ns G Y ho hd hcd hmg hobj hints hlen hg => ?_
  obtain ⟨K, ts, KX, h1, h2, h3, L⟩ := F w mg fa _ Y G.T.g hmg
  exact law_hereT L KX G.T.g G.T.b G.T.builtins G.T.nolimit ((G.T.seer hin).mods.imp fun _ z => z.1) hg h1 h2 h3 G.T.bmain hobj hints hlen
end
end Lt
set_option Elab.async false
set_option linter.all false
set_option maxRecDepth 100000
set_option maxHeartbeats 0
/-! What the head is looked at for, the head's run. -/
namespace Kh
open PySem PySem.Spec PyProof.Rows L2 Sx Rp Dw NdefX Kt Kw Kb GxR
def addrOf (K : PySem.W.Frag) (n : Str) : Addr := match PySem.W.nsIn K mainGlobals n with
  | some (some (.ref C)) => C
  | _ => 0
/-- a function's words -/
abbrev Fw : Type := Option (Str × Str × Arguments × FuncBody × Scope × Addr × List Str × Addr)
def fwOf (K : PySem.W.Frag) (f : Addr) : Fw := match K.lookup f with
  | some ⟨_, _, .func fd, _⟩ => some (fd.name, fd.qualname, fd.params, fd.body, fd.scope, fd.globals, fd.closure.map (·.1), fd.builtins)
  | _ => none
def fwVal (st : Stmt) (x qual : Str) (cl : List Str) : Fw := some (x, qual, defArgs st, .stmts (defBody st), defScope st, mainGlobals, cl, builtinsNs)
/-- the rest of what is wanted of a def of the top -/
def defB (K : PySem.W.Frag) (x : Str) : Bool := decide (PySem.W.nsIn K mainGlobals x = some (some (.ref (addrOf K x)))) && (PySem.W.keepIn K (.ref (addrOf K x)) && (match K.lookup (addrOf K x) with
  | some ⟨_, _, .func fd, _⟩ => PySem.W.codeIn K fd.code x && decide (fd.defaults = .none)
  | _ => false))
def iniOf (K : PySem.W.Frag) (C : Addr) : Addr := match PySem.W.findIn K (.ref C) "__init__" with
  | some (some (.ref f)) => f
  | _ => 0
def iniB (K : PySem.W.Frag) (C : Addr) (qual : Str) (ns : List Str) : Bool :=
  decide (PySem.W.findIn K (.ref C) "__init__" = some (some (.ref (iniOf K C)))) && (decide (PySem.W.typeIn K (.ref (iniOf K C)) = some (.type "function")) && (decide (PySem.W.ks_superIn K C C "__init__" = some (some (.builtin "ValueError.__init__"))) && ((ns.all fun n => decide (PySem.W.findIn K (.ref C) n = some none)) &&
  (match K.lookup (iniOf K C) with
  | some ⟨_, _, .func fd, _⟩ => decide (fd.defaults = .none) && (decide (fd.kwdefaults = .none) && (decide (fd.annotations = none) && (match fd.closure, fd.code with
    | [(_, cc)], .ref c => PySem.W.codeIn K (.ref c) qual && ((match K.lookup cc with
      | some ⟨_, _, .cell (some v), _⟩ => decide (v = .ref C)
      | _ => false) && (match K.lookup c with
      | some ⟨_, _, .fields vs, _⟩ => (match (vs[2]? : Option Value) with
        | some (Value.str x _) => ("/claim/cut.py" : Str) == x
        | _ => false)
      | _ => false))
    | _, _ => false)))
  | _ => false))))
def codeOf (K : PySem.W.Frag) (x : Str) : Addr := match K.lookup (addrOf K x) with
  | some ⟨_, _, .func fd, _⟩ => (match fd.code with
    | .ref c => c
    | _ => 0)
  | _ => 0
def tabOf (K : PySem.W.Frag) (x : Str) : Addr := match K.lookup (codeOf K x) with
  | some ⟨_, _, .fields vs, _⟩ => (match (vs[11]? : Option Value) with
    | some (.ref P) => P
    | _ => 0)
  | _ => 0
/-- a code object whose table is empty -/
def tabB (K : PySem.W.Frag) (g : Addr → Option Obj) (x : Str) : Bool := (match K.lookup (addrOf K x) with
  | some ⟨_, _, .func fd, _⟩ => decide (fd.code = .ref (codeOf K x))
  | _ => false) && ((match K.lookup (codeOf K x) with
  | some ⟨.type "code", _, .fields vs, _⟩ => decide (vs[11]? = some (Value.ref (tabOf K x))) && (decide (vs.getD 11 .none = .ref (tabOf K x)) && ((match vs.getD 18 .none with
    | .str _ _ => true
    | _ => false) && ((match vs.getD 7 .none with
    | .int _ _ => true
    | _ => false) && ((match vs.getD 9 .none with
    | .bool _ => true
    | _ => false) && ((match vs.getD 10 .none with
    | .int _ _ => true
    | _ => false) && decide (codeOf K x ≠ tabOf K x))))))
  | _ => false) && ((match g (tabOf K x) with
  | some ⟨.none, none, .fields vs, sl⟩ => vs.isEmpty && sl.isEmpty
  | _ => false) && (K.lookup (tabOf K x)).isNone))
def keptB (K : PySem.W.Frag) : Bool := decide (PySem.W.nsIn K mainGlobals "KEPT" = some (some (.ref (addrOf K "KEPT")))) && (match K.lookup (addrOf K "KEPT") with
  | some ⟨.type "tuple", _, .seq us _, _⟩ => decide (us.toList.map (fun v => match v with
    | .str s _ => some s
    | _ => none) = keptS.map some)
  | _ => false)
def badB (K : PySem.W.Frag) : Bool := decide (PySem.W.nsIn K mainGlobals "PageError" = some (some (.ref (addrOf K "PageError")))) && (decide (PySem.W.nsIn K mainGlobals "BadText" = some (some (.ref (addrOf K "BadText")))) && (errB K (addrOf K "PageError") (addrOf K "BadText") && (decide (PySem.W.exmOne K (.ref (addrOf K "BadText")) (.ref (addrOf K "PageError")) = some true) && iniB K (addrOf K "BadText") "BadText.__init__" nsB)))
def freeL : List Str := ["super", "len", "int", "abs", "repr", "isinstance", "enumerate", "min", "range", "tuple", "str", "all"]
def freeB (K : PySem.W.Frag) : Bool := freeL.all fun x => decide (PySem.W.nsIn K mainGlobals x = some none)
def opqB (K : PySem.W.Frag) : Bool := decide (PySem.W.nsIn K cStatics "thirdparty.any" = some none)
def defL : List (Nat × Str) := [(5, "is_name"), (6, "is_text"), (7, "is_joined"), (8, "words_of"), (9, "words_of_line"), (11, "_law_begun"), (12, "_law_mixed"), (13, "_law_take"), (14, "_law_pick"), (15, "_law_kept"), (16, "_law_any_name"), (17, "_law_inner"), (18, "_law_cut"), (19, "_law_piece"), (20, "_law_is_told_name"), (21, "_law_names_right"), (22, "law")]
abbrev Ob : Type := (Bool × Bool × Bool × Bool × Bool × Bool × Bool × Bool) × List Fw × Fw
def obsK (K : PySem.W.Frag) (g : Addr → Option Obj) : Ob := ((defL.all fun d => defB K d.2, tabB K g "is_text", tabB K g "is_name", decide (tabOf K "is_name" ≠ tabOf K "is_text"), keptB K, badB K, freeB K, opqB K), defL.map fun d => fwOf K (addrOf K d.2), fwOf K (iniOf K (addrOf K "BadText")))
def valK : Ob := ((true, true, true, true, true, true, true, true), defL.map fun d => fwVal (topS d.1) d.2 d.2 [], fwVal (inClass (topS 2) 0) "__init__" "BadText.__init__" ["__class__"])
def as0 (g : Addr → Option Obj) : List Addr := cStatics :: He.asD g 4
def asK (g : Addr → Option Obj) : List Addr := (as0 g).filter fun a => a != tabOf (He.frG g (as0 g)) "is_text" && a != tabOf (He.frG g (as0 g)) "is_name"
def getT (g : Addr → Option Obj) (K : PySem.W.Frag) : Addr → Option Obj := g
def hk : PySem.W.Hook where
  α := Ob
  obs := fun s => obsK (He.frG s.heap.get? (asK s.heap.get?)) s.heap.get?
  val := fun _ => valK
  says := fun _ h => ∃ (K : PySem.W.Frag) (g : Addr → Option Obj), K.In h ∧ (∀ b o, g b = some o → h.get? b = some o) ∧ obsK K g = valK
  of := fun _ s e => ⟨_, s.heap.get?, He.frG_in, fun _ _ z => z, e⟩
  keeps := fun _ _ _ ⟨K, g, hK, hg, c⟩ k => ⟨K, g, PySem.W.Frag.In.keeps hK k, fun b o z => k b o (hg b o z), c⟩
def ob (s : PySem.W.SharedT) : Ob := obsK (He.frG (HandSHeadRun.getT s) (asK (HandSHeadRun.getT s))) (HandSHeadRun.getT s)
theorem ob_eq (s : PySem.W.SharedT) : ob s = hk.obs s.abs := by
  have e : HandSHeadRun.getT s = s.abs.heap.get? := funext (HandSHeadRun.getT_eq s)
  show obsK (He.frG (HandSHeadRun.getT s) (asK (HandSHeadRun.getT s))) (HandSHeadRun.getT s) = obsK (He.frG s.abs.heap.get? (asK s.abs.heap.get?)) s.abs.heap.get?
  rw [e]
abbrev R : PySem.W.OpenRow := PySem.W.OpenLaw.row PySem.Challenge.rw_saidandasked_k00_names_and_words
def looseK : List Str := ["PageError", "BadText", "KEPT", "is_name", "is_text", "is_joined", "words_of", "words_of_line", "_law_begun", "_law_mixed", "_law_take", "_law_pick", "_law_kept", "_law_any_name", "_law_inner", "_law_cut", "_law_piece", "_law_is_told_name", "_law_names_right"]
theorem run (w : World) : HandSHeadRun.RunEq R (PySem.W.view R.prog [22]) hk ob 8000 looseK w := by
  intro os
  kernel_rfl
end Kh
set_option Elab.async false
set_option linter.all false
set_option maxRecDepth 100000
set_option maxHeartbeats 4000000
namespace Kh
open PySem PySem.Spec PyProof.Rows L2 Sx Rp Dw NdefX Kt Kw Kb GxR
theorem and2 {a b : Bool} (h : (a && b) = true) : a = true ∧ b = true := by simpa using h
section
variable {P : Program} {w : World} {K : PySem.W.Frag} {mg : Str → Option Value} {base h : Heap}
theorem fun_of {st : Stmt} {x : Str} (h1 : defB K x = true) (h2 : fwOf K (addrOf K x) = fwVal st x x []) : PySem.W.nsIn K mainGlobals x = some (some (.ref (addrOf K x))) ∧ ∃ fd, Fun K x x st (addrOf K x) fd := by
  unfold defB at h1
  obtain ⟨h1, h1'⟩ := and2 h1
  obtain ⟨hk, h1'⟩ := and2 h1'
  refine ⟨of_decide_eq_true h1, ?_⟩
  clear h1
  unfold fwOf fwVal at h2
  generalize addrOf K x = f at *
  cases e : K.lookup f with
  | none => rw [e] at h1'; cases h1'
  | some o =>
    obtain ⟨oc, od, dt, sl⟩ := o
    rw [e] at h1' h2
    cases dt with
    | func fd =>
      dsimp only at h1' h2
      obtain ⟨hc, hd⟩ := and2 h1'
      have hd := of_decide_eq_true hd
      obtain ⟨nm, qn, pr, bd, sc, gl, cl, df, kd, doc, pm, an, cd, ct, bi⟩ := fd
      dsimp only at hd h2 hc
      simp only [Option.some.injEq, Prod.mk.injEq] at h2
      obtain ⟨e1, e2, e3, e4, e5, e6, e7, e8⟩ := h2
      have e7 := List.map_eq_nil_iff.mp e7
      rw [e1, e2, e3, e4, e5, e6, e7, e8, hd] at e
      exact ⟨_, ⟨⟨oc, od, kd, doc, pm, an, cd, ct, sl, rfl, e, hc⟩, hk⟩⟩
    | _ => cases h1'
theorem ini_end {st : Stmt} {C : Addr} {qual : Str} {f cc c : Addr} {q : Str} {oc : Value} {od : Option Addr} {doc pm ct : Value} {sl : Array (Option Value)} (hf : P.main.file = ("/claim/cut.py" : Str)) (hi : PySem.W.findIn K (.ref C) "__init__" = some (some (.ref f))) (ht : PySem.W.typeIn K (.ref f) = some (.type "function")) (hs : PySem.W.ks_superIn K C C "__init__" = some (some (.builtin "ValueError.__init__")))
    (e : K.lookup f = some ⟨oc, od, .func ⟨"__init__", qual, defArgs st, .stmts (defBody st), defScope st, mainGlobals, [(q, cc)], .none, .none, doc, pm, none, .ref c, ct, builtinsNs⟩, sl⟩) (e7 : ([(q, cc)] : List (Str × Addr)).map (·.1) = (["__class__"] : List Str))
    (h1 : (PySem.W.codeIn K (.ref c) qual && ((match K.lookup cc with
      | some ⟨_, _, .cell (some v), _⟩ => decide (v = .ref C)
      | _ => false) && (match K.lookup c with
      | some ⟨_, _, .fields vs, _⟩ => (match (vs[2]? : Option Value) with
        | some (Value.str x _) => ("/claim/cut.py" : Str) == x
        | _ => false)
      | _ => false))) = true) : ∃ fI cc c fd, InitF P K st qual C fI cc c fd := by
  obtain ⟨hco, h1⟩ := and2 h1
  obtain ⟨hce, h1⟩ := and2 h1
  have e7 : q = ("__class__" : Str) := by simpa using e7
  subst e7
  have z1 : ∃ cl cld csl, K.lookup cc = some ⟨cl, cld, .cell (some (.ref C)), csl⟩ := by
    split at hce
    · rename_i hlc
      exact ⟨_, _, _, (of_decide_eq_true hce) ▸ hlc⟩
    · cases hce
  have z2 : ∃ ccl cdd vs ccs x tf, K.lookup c = some ⟨ccl, cdd, .fields vs, ccs⟩ ∧ vs[2]? = some (.str x tf) ∧ ((P.main.file : Str) == x) = true := by
    split at h1
    · rename_i hlf
      split at h1
      · rename_i hx
        exact ⟨_, _, _, _, _, _, hlf, hx, by rw [hf]; exact h1⟩
      · cases h1
    · cases h1
  exact ⟨f, cc, c, _, ⟨⟨oc, od, sl, doc, pm, ct, rfl, e⟩, hco, z1, z2, hi, ht, hs⟩⟩
theorem ini_of {st : Stmt} {C : Addr} {qual : Str} {ns : List Str} (hf : P.main.file = ("/claim/cut.py" : Str)) (h1 : iniB K C qual ns = true) (h2 : fwOf K (iniOf K C) = fwVal st "__init__" qual ["__class__"]) : (∃ fI cc c fd, InitF P K st qual C fI cc c fd) ∧ ∀ n, n ∈ ns → PySem.W.findIn K (.ref C) n = some none := by
  unfold iniB at h1
  obtain ⟨hi, h1⟩ := and2 h1
  obtain ⟨ht, h1⟩ := and2 h1
  obtain ⟨hs, h1⟩ := and2 h1
  obtain ⟨hn, h1⟩ := and2 h1
  refine ⟨?_, fun n m => of_decide_eq_true (List.all_eq_true.mp hn n m)⟩
  clear hn
  have hi := of_decide_eq_true hi
  have ht := of_decide_eq_true ht
  have hs := of_decide_eq_true hs
  unfold fwOf fwVal at h2
  generalize iniOf K C = f at *
  cases e : K.lookup f with
  | none => rw [e] at h1; cases h1
  | some o =>
    obtain ⟨oc, od, dt, sl⟩ := o
    rw [e] at h1 h2
    cases dt with
    | func fd =>
      dsimp only at h1 h2
      obtain ⟨nm, qn, pr, bd, sc, gl, cl, df, kd, doc, pm, an, cd, ct, bi⟩ := fd
      dsimp only at h1 h2
      obtain ⟨hd, h1⟩ := and2 h1
      obtain ⟨hkd, h1⟩ := and2 h1
      obtain ⟨han, h1⟩ := and2 h1
      have hd' := of_decide_eq_true hd
      have hkd' := of_decide_eq_true hkd
      have han' := of_decide_eq_true han
      simp only [Option.some.injEq, Prod.mk.injEq] at h2
      obtain ⟨e1, e2, e3, e4, e5, e6, e7, e8⟩ := h2
      obtain _ | ⟨⟨q, cc⟩, _ | ⟨_, _⟩⟩ := cl
      · simp at h1
      · cases cd with
        | ref c =>
          dsimp only at h1 e e7
          exact ini_end hf hi ht hs (by rw [e1, e2, e3, e4, e5, e6, e8, hd', hkd', han'] at e; exact e) e7 h1
        | _ => simp at h1
      · simp at h1
    | _ => cases h1
theorem bind_ini {st : Stmt} {C : Addr} {qual : Str} {fI cc c : Addr} {fd : FuncData} {ps : List Str} (I : InitF P K st qual C fI cc c fd) (hb : ∀ (doc pm ctv : Value) (us : List Value), us.length = ps.length → bindArgs ((⟨"__init__", qual, defArgs st, defBody st, defScope st, [("__class__", cc)], c⟩ : NF).fd doc pm ctv) ⟨us, []⟩ = pure (ps.zip us)) : Binds K fd ps [] := by
  obtain ⟨oc, od, osl, doc, pm, ctv, rfl, lk⟩ := I.lk
  exact .all (hb doc pm ctv)
theorem vals_of : ∀ (us : List Value) (l : List Str), (us.map (fun v => match v with
    | .str s _ => some s
    | _ => none) = l.map some) → Vals (l.map V.str) us
  | [], [], _ => .nil
  | [], s :: l, e => by simp at e
  | u :: us, [], e => by simp at e
  | u :: us, s :: l, e => by
    rw [List.map_cons, List.map_cons, List.cons.injEq] at e
    obtain ⟨e1, e2⟩ := e
    cases u with
    | str z t => obtain rfl : z = s := by injection e1
                 exact .cons ⟨t, rfl⟩ (vals_of us l e2)
    | _ => cases e1
theorem kept_of (h1 : keptB K = true) : PySem.W.nsIn K mainGlobals "KEPT" = some (some (.ref (addrOf K "KEPT"))) ∧ ∀ H, SqT K H (addrOf K "KEPT") keptV := by
  unfold keptB at h1
  obtain ⟨h1, h2⟩ := and2 h1
  refine ⟨of_decide_eq_true h1, fun H => ?_⟩
  clear h1
  generalize addrOf K "KEPT" = a at *
  split at h2
  · rename_i us n sl hl
    have e := of_decide_eq_true h2
    have len : us.toList.length = keptS.length := by simpa using congrArg List.length e
    refine .inr ⟨_, us, _, hl, rfl, rfl, ?_, vals_of _ _ e⟩
    have k : keptS.length ≤ 100 := by decide +kernel
    rw [← Array.length_toList, len, sizeLine_eq]; omega
  · cases h2
theorem tab_of {g : Addr → Option Obj} (X : K.In h) (hg : ∀ b o, g b = some o → h.get? b = some o) {x : Str} (h1 : tabB K g x = true) : h.get? (tabOf K x) = some { cls := .none, data := .fields #[] } ∧ K.lookup (tabOf K x) = none ∧ PySem.W.CodeHd h (codeOf K x) (tabOf K x) ∧ ∀ oc od fd sl, K.lookup (addrOf K x) = some ⟨oc, od, .func fd, sl⟩ → fd.code = .ref (codeOf K x) := by
  unfold tabB at h1
  obtain ⟨a1, h1⟩ := and2 h1
  obtain ⟨a2, h1⟩ := and2 h1
  obtain ⟨a3, a4⟩ := and2 h1
  refine ⟨?_, by simpa using a4, ?_, fun oc od fd sl e => by rw [e] at a1; exact of_decide_eq_true a1⟩
  · clear a1 a2 a4 h1
    generalize tabOf K x = p at *
    split at a3
    · rename_i vs sl hl
      obtain ⟨b1, b2⟩ := and2 a3
      have e1 : vs = #[] := by simpa using b1
      have e2 : sl = #[] := by simpa using b2
      rw [e1, e2] at hl
      exact hg _ _ hl
    · cases a3
  · clear a1 a3 a4 h1
    generalize tabOf K x = p at *
    generalize codeOf K x = c at *
    split at a2
    · rename_i dd vs sl hl
      obtain ⟨b1, a2⟩ := and2 a2
      obtain ⟨b2, a2⟩ := and2 a2
      obtain ⟨b3, a2⟩ := and2 a2
      obtain ⟨b4, a2⟩ := and2 a2
      obtain ⟨b5, a2⟩ := and2 a2
      obtain ⟨b6, b7⟩ := and2 a2
      split at b3
      · rename_i f tf q3
        split at b4
        · rename_i fl tg q4
          split at b5
          · rename_i bb q5
            split at b6
            · rename_i tx tt q6
              exact ⟨_, vs, f, tf, fl, tg, bb, tx, tt, X _ _ hl, rfl, rfl, of_decide_eq_true b1, of_decide_eq_true b2, q3, q4, q5, q6, of_decide_eq_true b7⟩
            · cases b6
          · cases b5
        · cases b4
      · cases b3
    · cases a2
theorem funT_of {st : Stmt} {x : Str} {fd : FuncData} {c : Addr} (F : Fun K x x st (addrOf K x) fd) (hc : ∀ oc od fd sl, K.lookup (addrOf K x) = some ⟨oc, od, .func fd, sl⟩ → fd.code = .ref c) : FunT K x x st (addrOf K x) c fd := by
  obtain ⟨oc, od, kw, dc, md, an, cd, ct, sl, rfl, lk, h2⟩ := F.ex
  have e := hc _ _ _ _ lk
  have e : cd = .ref c := e
  subst e
  exact ⟨⟨oc, od, kw, dc, md, an, ct, sl, rfl, lk, h2⟩, F.kp⟩
end
end Kh
set_option Elab.async false
set_option linter.all false
set_option maxRecDepth 100000
set_option maxHeartbeats 4000000
namespace Kh
open PySem PySem.Spec PyProof.Rows L2 Sx Rp Dw NdefX Kt Kw Kb GxR
section
variable {P : Program} {w : World} {K : PySem.W.Frag} {mg : Str → Option Value} {base h : Heap}
theorem law_at (X : K.In h) {g : Addr → Option Obj} (hg : ∀ b o, g b = some o → h.get? b = some o) (G : h.Ns mainGlobals mg) {fa : Addr} (hmg : mg "law" = some (.ref fa)) (hf : P.main.file = ("/claim/cut.py" : Str)) (ht : (P.main.scope.names.lookup ("super" : Str)).isSome = false) (e : obsK K g = valK) :
    ∃ ts : List (Addr × Addr), (∀ p ∈ ts, h.get? p.2 = some { cls := .none, data := .fields #[] }) ∧ (∀ p ∈ ts, K.lookup p.2 = none) ∧ (∀ p ∈ ts, PySem.W.CodeHd h p.1 p.2) ∧ Lt.LawAtT P w K mg fa ts := by
  obtain ⟨e1, e2⟩ := Prod.mk.inj e
  obtain ⟨e2, e3⟩ := Prod.mk.inj e2
  simp only [Prod.mk.injEq] at e1
  obtain ⟨h1, h2, h3, h4, h5, h6, h7, h8⟩ := e1
  have D := fun (i : Nat) (x : Str) (m : (i, x) ∈ defL) => List.all_eq_true.mp h1 _ m
  simp only [defL, List.map_cons, List.map_nil, List.cons.injEq, and_true] at e2
  obtain ⟨d5, d6, d7, d8, d9, d11, d12, d13, d14, d15, d16, d17, d18, d19, d20, d21, d22⟩ := e2
  have fr : ∀ x, x ∈ freeL → mg x = none := fun x m => PySem.W.mg_none_of X G (of_decide_eq_true (List.all_eq_true.mp h7 x m))
  have ms : mg "super" = none := fr _ (by simp [freeL])
  have ml : mg "len" = none := fr _ (by simp [freeL])
  have mi : mg "int" = none := fr _ (by simp [freeL])
  have ma : mg "abs" = none := fr _ (by simp [freeL])
  have mr : mg "repr" = none := fr _ (by simp [freeL])
  have mis : mg "isinstance" = none := fr _ (by simp [freeL])
  have me : mg "enumerate" = none := fr _ (by simp [freeL])
  have mmin : mg "min" = none := fr _ (by simp [freeL])
  have mra : mg "range" = none := fr _ (by simp [freeL])
  have mtu : mg "tuple" = none := fr _ (by simp [freeL])
  have mst : mg "str" = none := fr _ (by simp [freeL])
  have mal : mg "all" = none := fr _ (by simp [freeL])
  have ho := of_decide_eq_true h8
  obtain ⟨n5, g5, F5⟩ := fun_of (D 5 "is_name" (by simp [defL])) d5
  obtain ⟨n6, g6, F6⟩ := fun_of (D 6 "is_text" (by simp [defL])) d6
  obtain ⟨n7, g7, F7⟩ := fun_of (D 7 "is_joined" (by simp [defL])) d7
  obtain ⟨n8, g8, F8⟩ := fun_of (D 8 "words_of" (by simp [defL])) d8
  obtain ⟨n9, g9, F9⟩ := fun_of (D 9 "words_of_line" (by simp [defL])) d9
  obtain ⟨n11, g11, F11⟩ := fun_of (D 11 "_law_begun" (by simp [defL])) d11
  obtain ⟨n12, g12, F12⟩ := fun_of (D 12 "_law_mixed" (by simp [defL])) d12
  obtain ⟨n13, g13, F13⟩ := fun_of (D 13 "_law_take" (by simp [defL])) d13
  obtain ⟨n14, g14, F14⟩ := fun_of (D 14 "_law_pick" (by simp [defL])) d14
  obtain ⟨n15, g15, F15⟩ := fun_of (D 15 "_law_kept" (by simp [defL])) d15
  obtain ⟨n16, g16, F16⟩ := fun_of (D 16 "_law_any_name" (by simp [defL])) d16
  obtain ⟨n17, g17, F17⟩ := fun_of (D 17 "_law_inner" (by simp [defL])) d17
  obtain ⟨n18, g18, F18⟩ := fun_of (D 18 "_law_cut" (by simp [defL])) d18
  obtain ⟨n19, g19, F19⟩ := fun_of (D 19 "_law_piece" (by simp [defL])) d19
  obtain ⟨n20, g20, F20⟩ := fun_of (D 20 "_law_is_told_name" (by simp [defL])) d20
  obtain ⟨n21, g21, F21⟩ := fun_of (D 21 "_law_names_right" (by simp [defL])) d21
  obtain ⟨n22, g22, F22⟩ := fun_of (D 22 "law" (by simp [defL])) d22
  have mg_ := fun {x : Str} {v : Value} => PySem.W.mg_of (n := x) (v := v) X G
  have z := hmg.symm.trans (mg_ n22)
  have z : fa = addrOf K "law" := by injection z with z; injection z
  subst z
  obtain ⟨tt1, tt2, tt3, tt4⟩ := tab_of X hg h2
  obtain ⟨tn1, tn2, tn3, tn4⟩ := tab_of X hg h3
  obtain ⟨nk, kv⟩ := kept_of h5
  unfold badB at h6
  obtain ⟨q1, h6⟩ := and2 h6
  obtain ⟨q2, h6⟩ := and2 h6
  obtain ⟨q3, h6⟩ := and2 h6
  obtain ⟨q4, q5⟩ := and2 h6
  have mP := mg_ (of_decide_eq_true q1)
  have mB := mg_ (of_decide_eq_true q2)
  have E1 := errB_ok q3
  have hex := of_decide_eq_true q4
  obtain ⟨⟨fI, cc, c, fdI, I0⟩, no1⟩ := ini_of (P := P) hf q5 e3
  have FT := funT_of F6 tt4
  have FN := funT_of F5 tn4
  refine ⟨[(codeOf K "is_text", tabOf K "is_text"), (codeOf K "is_name", tabOf K "is_name")], fun p hp => ?_, fun p hp => ?_, fun p hp => ?_, ?_⟩
  · simp only [List.mem_cons, List.not_mem_nil, or_false] at hp
    rcases hp with rfl | rfl
    · exact tt1
    · exact tn1
  · simp only [List.mem_cons, List.not_mem_nil, or_false] at hp
    rcases hp with rfl | rfl
    · exact tt2
    · exact tn2
  · simp only [List.mem_cons, List.not_mem_nil, or_false] at hp
    rcases hp with rfl | rfl
    · exact tt3
    · exact tn3
  intro base s H a ns kb nb hsm TB tg e0 hS hn
  have TBt := TB (codeOf K "is_text", tabOf K "is_text") (by simp)
  have TBn := TB (codeOf K "is_name", tabOf K "is_name") (by simp)
  have tgt := tg (codeOf K "is_text", tabOf K "is_text") (by simp)
  have tgn := tg (codeOf K "is_name", tabOf K "is_name") (by simp)
  have oI := Kb.ok_badtext (w := w) (base := base) (mg := mg) E1 I0 ms (no1 "line" (by simp)) (no1 "column" (by simp)) (no1 "wanted" (by simp)) ho ht
  have bI : Binds K fdI ["self", "line", "column", "wanted"] [] := bind_ini I0 (fun _ _ _ us hl => match us, hl with | [_, _, _, _], _ => rfl)
  have o7 := Kp.ok_joined (P := P) (w := w) (mg := mg) (base := base) F7
  have o9 := Kp.ok_line (P := P) (w := w) (base := base) F9 ml o7 (mg_ n7) F7.kp (F7.binds (fun _ _ _ _ _ _ us hl => match us, hl with | [_], _ => rfl))
  have o6 := Kt.ok_text (P := P) (w := w) (base := base) FT mis mst mal TBt
  have o5 := Kt.ok_name (P := P) (w := w) (base := base) (od := none) (us := #[]) (un := 0) (ks := #[]) FN mis mst mal ml TBn (mg_ nk) kv
  have o8 := Kw.ok_words (P := P) (w := w) (base := base) F8 me o6 (mg_ n6) F6.kp (F6.binds (fun _ _ _ _ _ _ us hl => match us, hl with | [_], _ => rfl)) o9 (mg_ n9) F9.kp (F9.binds (fun _ _ _ _ _ _ us hl => match us, hl with | [_, _], _ => rfl)) E1.T I0.ini I0.ty oI bI mB
  have o12 := ok_mixed (P := P) (w := w) (base := base) F12 mi
  have o13 := ok_take (P := P) (w := w) (base := base) F13 mi o12 (mg_ n12) F12.kp (F12.binds (fun _ _ _ _ _ _ us hl => match us, hl with | [_], _ => rfl))
  have o14 := ok_pick (P := P) (w := w) (base := base) F14 ml o13 (mg_ n13) F13.kp (F13.binds (fun _ _ _ _ _ _ us hl => match us, hl with | [_, _], _ => rfl))
  have o11 := ok_begun (P := P) (w := w) (base := base) F11 mi ma
  have o15 := Ka.ok_kept (P := P) (w := w) (mg := mg) (base := base) F15
  have o16 := Ka.ok_any (P := P) (w := w) (base := base) F16 ml mra o13 (mg_ n13) F13.kp (F13.binds (fun _ _ _ _ _ _ us hl => match us, hl with | [_, _], _ => rfl)) o14 (mg_ n14) F14.kp (F14.binds (fun _ _ _ _ _ _ us hl => match us, hl with | [_, _], _ => rfl)) o15 (mg_ n15) F15.kp (F15.binds (fun _ _ _ _ _ _ us hl => match us, hl with | [], _ => rfl))
  have o17 := Kl.ok_inner (P := P) (w := w) (mg := mg) (base := base) F17
  have o18 := Kl.ok_cut (P := P) (w := w) (base := base) F18 me o17 (mg_ n17) F17.kp (F17.binds (fun _ _ _ _ _ _ us hl => match us, hl with | [_], _ => rfl))
  have o19 := Kc2.ok_piece (P := P) (w := w) (base := base) F19 ml o13 (mg_ n13) F13.kp (F13.binds (fun _ _ _ _ _ _ us hl => match us, hl with | [_, _], _ => rfl)) o14 (mg_ n14) F14.kp (F14.binds (fun _ _ _ _ _ _ us hl => match us, hl with | [_, _], _ => rfl)) o15 (mg_ n15) F15.kp (F15.binds (fun _ _ _ _ _ _ us hl => match us, hl with | [], _ => rfl)) o16 (mg_ n16) F16.kp (F16.binds (fun _ _ _ _ _ _ us hl => match us, hl with | [_], _ => rfl))
  have o20 := Kn.ok_toldname (P := P) (w := w) (base := base) F20 ml o15 (mg_ n15) F15.kp (F15.binds (fun _ _ _ _ _ _ us hl => match us, hl with | [], _ => rfl))
  have kbn : KBinds K g5 ["thing"] ["thing"] (fun us ws => us ++ ws) (fun vs zs => vs ++ zs) := by
    obtain ⟨oc, od, kw, dc, md, an, cd, ct, sl, rfl, lk, hc⟩ := F5.ex
    exact ⟨fun s us ws _ hl => by
      rcases us with _ | ⟨u, _ | ⟨u2, us⟩⟩ <;> rcases ws with _ | ⟨v, _ | ⟨v2, ws⟩⟩ <;> first | exact BindsTo.of_eq rfl | (exfalso; simp at hl), fun r1 r2 => r1.append r2⟩
  have kbw : KBinds K g8 ["text"] ["text"] (fun us ws => us ++ ws) (fun vs zs => vs ++ zs) := by
    obtain ⟨oc, od, kw, dc, md, an, cd, ct, sl, rfl, lk, hc⟩ := F8.ex
    exact ⟨fun s us ws _ hl => by
      rcases us with _ | ⟨u, _ | ⟨u2, us⟩⟩ <;> rcases ws with _ | ⟨v, _ | ⟨v2, ws⟩⟩ <;> first | exact BindsTo.of_eq rfl | (exfalso; simp at hl), fun r1 r2 => r1.append r2⟩
  have o21 := Kr.ok_names (P := P) (w := w) (base := base) F21 o14 (mg_ n14) F14.kp (F14.binds (fun _ _ _ _ _ _ us hl => match us, hl with | [_, _], _ => rfl)) o15 (mg_ n15) F15.kp (F15.binds (fun _ _ _ _ _ _ us hl => match us, hl with | [], _ => rfl)) o16 (mg_ n16) F16.kp (F16.binds (fun _ _ _ _ _ _ us hl => match us, hl with | [_], _ => rfl)) o5 (mg_ n5) F5.kp (F5.binds (fun _ _ _ _ _ _ us hl => match us, hl with | [_], _ => rfl)) kbn o20 (mg_ n20) F20.kp (F20.binds (fun _ _ _ _ _ _ us hl => match us, hl with | [_], _ => rfl))
  have hbf : ∀ (s : Shared) (u : Value), BindsTo s g22 ⟨[u], []⟩ [(("script" : Str), u)] := fun s u => by
    obtain ⟨oc, od, kV, doc, pm, an, cdv, ct, osl, rfl, lk, hcd⟩ := F22.ex
    exact BindsTo.of_eq rfl
  exact Kz.law_run F22 hbf hsm ⟨_, g11, mg_ n11, F11.kp, o11, F11.binds (fun _ _ _ _ _ _ us hl => match us, hl with | [_], _ => rfl)⟩ ⟨_, g14, mg_ n14, F14.kp, o14, F14.binds (fun _ _ _ _ _ _ us hl => match us, hl with | [_, _], _ => rfl)⟩ ⟨_, g15, mg_ n15, F15.kp, o15, F15.binds (fun _ _ _ _ _ _ us hl => match us, hl with | [], _ => rfl)⟩ ⟨_, g19, mg_ n19, F19.kp, o19, F19.binds (fun _ _ _ _ _ _ us hl => match us, hl with | [_], _ => rfl)⟩ ⟨_, g18, mg_ n18, F18.kp, o18, F18.binds (fun _ _ _ _ _ _ us hl => match us, hl with | [_], _ => rfl)⟩ ⟨_, g21, mg_ n21, F21.kp, o21, F21.binds (fun _ _ _ _ _ _ us hl => match us, hl with | [_], _ => rfl)⟩
    (mg_ n8) F8.kp o8 (F8.binds (fun _ _ _ _ _ _ us hl => match us, hl with | [_], _ => rfl)) kbw (mg_ nk) kv mP mB E1 hex no1 ml mmin mra mtu mr mis e0 hS hn tgt tgn (of_decide_eq_true h4)
end
end Kh
set_option Elab.async false
set_option linter.all false
open PySem PySem.W PySem.Calls PyProof.Rows
set_option maxRecDepth 100000
set_option maxHeartbeats 0
theorem PySem.Challenge.cw_saidandasked_k00_names_and_words_holds : PySem.Challenge.rw_saidandasked_k00_names_and_words.Holds := by
  w_on; o_law
  refine HandSHeadRun.head_any (r := OpenLaw.row PySem.Challenge.rw_saidandasked_k00_names_and_words) (q := view (OpenLaw.row PySem.Challenge.rw_saidandasked_k00_names_and_words).prog [22]) (H := Kh.hk) (ob := Kh.ob) (M := 8000) (loose := Kh.looseK) (d := HandSHeadRun.topDef (OpenLaw.row PySem.Challenge.rw_saidandasked_k00_names_and_words).prog 22) (kwd := []) Kh.ob_eq
    (by kernel_rfl) (fun s => by kernel_rfl) Kh.run (by kernel_rfl) (by kernel_rfl) (by kernel_rfl) (by rfl) (by first | assumption | decide +kernel) (by decide +kernel) ⟨rfl, rfl, rfl, rfl, rfl, by decide +kernel⟩ ?hw ?hc
  case hw => w_witness2
  case hc =>
    refine Lt.walk_hereT (l := PySem.Challenge.rw_saidandasked_k00_names_and_words) rfl (by kernel_rfl) (by decide +kernel) ?F
    intro w mg fa h Y G hmg0
    obtain ⟨K, g, KX, hg, c⟩ := Y
    have hmg : mg ("law" : PySem.Str) = some (.ref fa) := by
      have e : (HandSHeadRun.topDef (OpenLaw.row PySem.Challenge.rw_saidandasked_k00_names_and_words).prog 22).name = ("law" : PySem.Str) := by kernel_rfl
      rw [← e]
      exact hmg0
    obtain ⟨ts, h1, h2, h3, L⟩ := Kh.law_at (P := (PySem.Challenge.rw_saidandasked_k00_names_and_words).prog) (w := w) KX hg G hmg rfl (by rfl) c
    exact ⟨K, ts, KX, h1, h2, h3, L⟩
