import PyProof.Rows.All
import Wide.All
import OpenK.AllK
import Wide.FinOn
import HandS.ForMost
import HandS.Wide
import HandS.IsInst
import HandS.Style
import HandS.Flow
import HandS.Evl
import HandS.Walk
import HandS.Codes
import HandS.ClsMeth
import PyProof.ListStr
import PySem.Challenge.RW_innercommits_k02_modes
set_option Elab.async false
set_option linter.all false
set_option maxRecDepth 100000
set_option maxHeartbeats 4000000
namespace IC
open PySem L2 TL
/-! ### heaps: all but the addresses of l stand as they stood -/
def Kp (l : List Addr) (H H' : Hp) : Prop := ∀ b o, H b = some o → b ∉ l → H' b = some o
theorem Kp.refl (l : List Addr) (H : Hp) : Kp l H H := fun _ _ e _ => e
theorem Kp.trans {l : List Addr} {H H1 H2 : Hp} (a : Kp l H H1) (b : Kp l H1 H2) : Kp l H H2 := fun c o e h => b c o (a c o e h) h
theorem Kp.same {l : List Addr} {H H' : Hp} (a : Same H H') : Kp l H H' := fun b o e _ => a b o e
theorem Kp.at_ {l : List Addr} {H : Hp} {p : Addr} {o : HO} (h : p ∈ l) : Kp l H (upd H p o) := fun b u e hb => by
  have q : b ≠ p := fun z => hb (by rw [z]; exact h)
  rw [upd_ne q]; exact e
theorem Kp.new {l : List Addr} {H : Hp} {p : Addr} {o : HO} (h : H p = none) : Kp l H (upd H p o) := fun b u e _ => by
  rw [upd_ne (ne_of_none e h)]; exact e
theorem Kp.mut {l : List Addr} {H H' : Hp} {p : Addr} {o : HO} (a : Kp l H H') (h : H p = none) : Kp l H (upd H' p o) := fun b u e hb => by
  rw [upd_ne (ne_of_none e h)]; exact a b u e hb
theorem Kp.mutAt {l : List Addr} {H H' : Hp} {p : Addr} {o : HO} (a : Kp l H H') (h : p ∈ l) : Kp l H (upd H' p o) := a.trans (Kp.at_ h)
theorem none_of {H : Hp} {p D : Addr} {o : HO} (h : upd H p o D = none) : p ≠ D ∧ H D = none := by
  have q : p ≠ D := ne_of_none upd_same h
  rw [upd_ne q.symm] at h
  exact ⟨q, h⟩
theorem Same.new {H : Hp} {p : Addr} {o : HO} (h : H p = none) : Same H (upd H p o) := fun b u e => by
  rw [upd_ne (ne_of_none e h)]; exact e

/-! ### the pool of numbers -/
def pl (a b c : Int) : List V := [.int a, .int b, .int c]
def PoolAt (H : Hp) (p : Addr) (n : Int) : Prop := ∃ a b c : Int, H p = some (.lst (pl a b c)) ∧ 0 ≤ a ∧ 0 ≤ b ∧ b < 2 ^ 62 ∧ 0 ≤ c ∧ c ≤ n
theorem PoolAt.up {H : Hp} {p : Addr} {n m : Int} (h : PoolAt H p n) (e : n ≤ m) : PoolAt H p m := by
  obtain ⟨a, b, c, h1, h2, h3, h4, h5, h6⟩ := h
  exact ⟨a, b, c, h1, h2, h3, h4, h5, Int.le_trans h6 e⟩
theorem PoolAt.mv {H H' : Hp} {p : Addr} {n : Int} (h : PoolAt H p n) (e : ∀ o, H p = some o → H' p = some o) : PoolAt H' p n := by
  obtain ⟨a, b, c, h1, h⟩ := h
  exact ⟨a, b, c, e _ h1, h⟩
/-- _law_draw(pool, many): a number below many; only the pool changes -/
def spDraw : Sp := fun vs H Q _ => ∃ (p : Addr) (m n : Int), vs = [.ref p, .int m] ∧ PoolAt H p n ∧ n < 1000000000 ∧ 0 < m ∧ m.natAbs < 2 ^ 200 ∧
  ∀ (d : Int) (o : HO), 0 ≤ d → d < m → PoolAt (upd H p o) p (n + 1) → Q (.int d) (upd H p o)
/-- _law_pool(script, at): a new pool -/
def spPool (K : PySem.W.Frag) : Sp := fun vs H Q _ => ∃ (a : Addr) (ns : List Int) (j : Nat), vs = [.ref a, .int j] ∧ SqL K H a (ns.map V.int) ∧ j < 64 ∧
  ∀ (p : Addr) (o : HO), H p = none → PoolAt (upd H p o) p 0 → Q (.ref p) (upd H p o)

/-- a def of the text by its name: it keeps the promise sp -/
structure Df (P : Program) (w : World) (K : PySem.W.Frag) (mg : Str → Option Value) (base : Heap) (k : Nat) (x : Str) (ps : List Str) (sp : Sp) : Prop where
  ex : ∃ (f : Addr) (fd : FuncData), FnOk P w K mg base CX0 k f fd ps sp ∧ mg x = some (.ref f) ∧ PySem.W.keepIn K (.ref f) = true ∧ Binds K fd ps []
theorem pe_df {X : Cx} {k j : Nat} {x : Str} {ps : List Str} {sp : Sp} {e : Expr} {es : List Expr} {t : TA} {p pos : Pos} (D : Df X.prog X.w X.K X.mg X.base k x ps sp) (hr : Room j X.A) (hk : k ≤ j) (hg : Gl X x)
    (ha : PA X (e :: es) t) (hdb : (x == ("__debug__" : Str)) = false := by decide) (he : starEach (e :: es) X.env = (false, eval e X.env) :: starEach es X.env := by rfl) (hpl : (backTo pos (starEach es X.env)).any (·.1) = false := by rfl) :
    PE X (.Call (.Name x p) (e :: es) [] pos) (tCall sp [] E0 t) := by
  obtain ⟨f, fd, F, hm, hkp, hb⟩ := D.ex
  exact pe_call F (hr.mono hk) hg hm hkp hb .nil pass0 ha hdb he hpl

/-! ### words -/
def Lt (c : Nat) : Prop := 97 ≤ c ∧ c ≤ 122
def IsW (z : Str) : Prop := 1 ≤ (tl z).length ∧ (tl z).length ≤ 8 ∧ ∀ c ∈ tl z, Lt c
def sgn (c : Nat) : Str := ⟨#[c]⟩
theorem joinL_one : ∀ cs : List Nat, joinL [] (cs.map fun c => [c]) = cs
  | [] => rfl
  | [c] => rfl
  | c :: d :: r => by
    show [c] ++ ([] ++ joinL [] ((d :: r).map fun c => [c])) = c :: d :: r
    rw [joinL_one (d :: r)]
    rfl
theorem tl_joined (cs : List Nat) : tl (Txt.join (Str.ofString "") (cs.map sgn)) = cs := by
  rw [join_eq, tl_join, List.map_map]
  exact joinL_one cs
def spWord : Sp := fun vs H Q _ => ∃ (p : Addr) (n : Int), vs = [.ref p] ∧ PoolAt H p n ∧ n < 900000000 ∧
  ∀ (z : Str) (H' : Hp), IsW z → PoolAt H' p (n + 9) → Kp [p] H H' → Q (.str z) H'
theorem abc_at (d : Int) (h0 : 0 ≤ d) (h1 : d < 26) : ∃ c, atI (Str.ofString "abcdefghijklmnopqrstuvwxyz").cps.toList d = some c ∧ Lt c := by
  have e : (Str.ofString "abcdefghijklmnopqrstuvwxyz").cps.toList = [97,98,99,100,101,102,103,104,105,106,107,108,109,110,111,112,113,114,115,116,117,118,119,120,121,122] := by decide +kernel
  rw [e]
  obtain ⟨j, rfl⟩ : ∃ j : Nat, d = j := ⟨d.toNat, by omega⟩
  have hj : j < 26 := by omega
  refine ⟨97 + j, atI_nat ?_, by unfold Lt; omega⟩
  have all : ∀ k : Fin 26, ([97,98,99,100,101,102,103,104,105,106,107,108,109,110,111,112,113,114,115,116,117,118,119,120,121,122] : List Nat)[k.val]? = some (97 + k.val) := by decide
  exact all ⟨j, hj⟩
/-- no text: a value of another type -/
def Oth (K : PySem.W.Frag) (H : Hp) (v : V) : Prop := ∃ T : String, TyX K H v (.type T) ∧ kitB T "str" = some false
def lB (c : Nat) : Bool := decide (97 ≤ c) && decide (c ≤ 122)
/-- is the text a word -/
def wB (z : Str) : Bool := decide (1 ≤ (tl z).length) && (decide ((tl z).length ≤ 8) && (tl z).all lB)
def spIsWord (K : PySem.W.Frag) : Sp := fun vs H Q _ => ∃ v : V, vs = [v] ∧ ((∃ z : Str, v = .str z ∧ (tl z).length ≤ 1000 ∧ ∀ H', Same H H' → Q (.bl (wB z)) H') ∨ (Oth K H v ∧ ∀ H', Same H H' → Q (.bl false) H'))
theorem len_le {z : Str} (h : (tl z).length ≤ 1000) : z.length ≤ sizeLine := by
  rw [len_tl]; exact Nat.le_of_lt (small1000 h)
theorem tl_one (c : Nat) : tl (⟨#[c]⟩ : Str) = [c] := rfl
theorem one_lt (c d : Nat) : ([c] < [d]) ↔ ¬ d ≤ c := by
  rw [List.cons_lt_cons_iff]
  simp
theorem lt_a (c : Nat) : decide ((⟨#[c]⟩ : Str).cps.toList < (Str.ofString "a").cps.toList) = !decide (97 ≤ c) := by
  have e : (Str.ofString "a").cps.toList = [97] := by decide +kernel
  rw [e]
  show decide ([c] < [97]) = _
  rw [Bool.eq_iff_iff, decide_eq_true_iff, Bool.not_eq_true', decide_eq_false_iff_not]
  exact one_lt c 97
theorem z_lt (c : Nat) : decide ((Str.ofString "z").cps.toList < (⟨#[c]⟩ : Str).cps.toList) = !decide (c ≤ 122) := by
  have e : (Str.ofString "z").cps.toList = [122] := by decide +kernel
  rw [e]
  show decide ([122] < [c]) = _
  rw [Bool.eq_iff_iff, decide_eq_true_iff, Bool.not_eq_true', decide_eq_false_iff_not]
  exact one_lt 122 c
theorem abc_mem (c : Nat) : decide (c ∈ (Str.ofString "abcdefghijklmnopqrstuvwxyz").cps.toList) = lB c := by
  have e : (Str.ofString "abcdefghijklmnopqrstuvwxyz").cps.toList = [97,98,99,100,101,102,103,104,105,106,107,108,109,110,111,112,113,114,115,116,117,118,119,120,121,122] := by decide +kernel
  rw [e]
  unfold lB
  rw [Bool.eq_iff_iff]
  simp
  omega
theorem shaped_all {xs : List PyData} (h : ∀ x ∈ xs, PyData.canLay0 x = true ∧ PyData.depth x ≤ 20) : PyData.canLayAll0 xs = true ∧ PyData.depthAll xs ≤ 20 := by
  induction xs with
  | nil => exact ⟨rfl, Nat.zero_le _⟩
  | cons x r ih =>
    have h1 := h x List.mem_cons_self
    have h2 := ih fun y hy => h y (List.mem_cons_of_mem _ hy)
    refine ⟨?_, ?_⟩
    · show (PyData.canLay0 x && PyData.canLayAll0 r) = true
      rw [h1.1, h2.1]
      rfl
    · show max (PyData.depth x) (PyData.depthAll r) ≤ 20
      omega
theorem shaped_list {xs : List PyData} (h : ∀ x ∈ xs, PyData.canLay0 x = true ∧ PyData.depth x ≤ 20) : SeqAt.shaped (.list xs) = true := by
  obtain ⟨h1, h2⟩ := shaped_all h
  show (PyData.canLay0 (.list xs) && decide (PyData.depth (.list xs) ≤ 64)) = true
  have e1 : PyData.canLay0 (.list xs) = true := h1
  have e2 : PyData.depth (.list xs) = PyData.depthAll xs + 1 := rfl
  rw [e1, e2, decide_eq_true (by omega)]
  rfl
theorem dpAll_strs {K : PySem.W.Frag} {H : Hp} : ∀ zs : List Str, DpAll K H (zs.map V.str) (zs.map PyData.str)
  | [] => .nil
  | z :: r => .cons (.str z) (dpAll_strs r)
def Okc (c : Nat) : Prop := c < 1114112
theorem strOk_of {z : Str} (h : ∀ c ∈ tl z, Okc c) : PyData.strOk z = true := by
  unfold PyData.strOk
  rw [Array.all_eq_true_iff_forall_mem]
  intro c hc
  exact decide_eq_true (h c (by simpa [tl] using hc))
theorem shaped_strs (zs : List Str) (h : ∀ z ∈ zs, ∀ c ∈ tl z, Okc c) : SeqAt.shaped (.list (zs.map PyData.str)) = true := shaped_list fun x hx => by
  obtain ⟨z, hz, rfl⟩ := List.mem_map.mp hx
  exact ⟨strOk_of (h z hz), Nat.zero_le _⟩
/-- a comprehension over range(n) whose element is a drawn letter -/
theorem lc_draw {te : TE} {gi : Nat} {σ : L2.St} {H1 : Hp} {D p : Addr} {Qd : Hp → Prop} (n : Nat) (m : Int) (hn : n ≤ 1000) (hp : PoolAt H1 p m) (hD : H1 D = none)
    (hte : ∀ (x : V) (m' : Int) (H : Hp) (Q : VK), PoolAt H p m' → m' ≤ m + n → (∀ c o, Lt c → PoolAt (upd H p o) p (m' + 1) → Q (.str (sgn c)) (upd H p o)) → te ((σ.set gi none).set gi (some x)) H Q)
    (hd : ∀ (cs : List Nat) (H' : Hp), cs.length = n → (∀ c ∈ cs, Lt c) → H' D = some (.lst ((cs.map sgn).map V.str)) → PoolAt H' p (m + n) → Kp [p] H1 H' → Qd H') :
    ∃ W : Nat → Nat → Hp → Prop, (∃ m, W 0 m (upd H1 D (.lst []))) ∧ ∀ i m H, W i m H →
      ((Itr 0 n).stop i H ∧ Qd H) ∨ ((Itr 0 n).go i H ∧ ∃ Nx : Hp → Prop, (∀ H', Nx H' → ∃ m', m' < m ∧ W (i + 1) m' H') ∧ ∀ x H', (Itr 0 n).yld i H x H' → gName gi x (wipe σ [gi]) H' fun σ2 H2 => wipe σ2 [gi] = wipe σ [gi] ∧ tYes σ2 H2 fun b H3 =>
        if b = true then te σ2 H3 fun y H4 => ∃ acc, H4 D = some (.lst acc) ∧ acc.length < sizeLine ∧ Nx (upd H4 D (.lst (acc ++ [y]))) else Nx H3) := by
  have hpD : p ≠ D := by
    obtain ⟨a, b, c, e, _⟩ := hp
    exact ne_of_none e hD
  refine lc_range (lo := 0) (n := n) (fun i H' => ∃ cs : List Nat, cs.length = i ∧ (∀ c ∈ cs, Lt c) ∧ H' D = some (.lst ((cs.map sgn).map V.str)) ∧ PoolAt H' p (m + i) ∧ Kp [p] H1 H')
    ⟨[], rfl, by simp, upd_same, (hp.mv fun u e => by rw [upd_ne hpD]; exact e).up (by omega), Kp.new hD⟩ ?_ ?_
  · rintro i H' hi ⟨cs, hl, hc, hcD, hp2, kp⟩
    refine ⟨by simp [wipe], ?_⟩
    refine hte _ (m + i) H' _ hp2 (by omega) fun c o hL hp3 => ?_
    refine ⟨_, (by rw [upd_ne hpD.symm]; exact hcD), small1000 (by rw [List.length_map, List.length_map]; omega), cs ++ [c], by simp [hl], ?_, ?_, ?_, (kp.mutAt (by simp)).mut hD⟩
    · intro x hx
      rcases List.mem_append.mp hx with hx | hx
      · exact hc x hx
      · rw [List.mem_singleton.mp hx]; exact hL
    · rw [upd_same, List.map_append, List.map_append]
      rfl
    · exact (hp3.mv fun u q => by rw [upd_ne hpD]; exact q).up (by omega)
  · rintro H' ⟨cs, hl, hc, hcD, hp2, kp⟩
    exact hd cs H' hl hc hcD hp2 kp
theorem sum_sgn (cs : List Nat) : (List.map (fun z : Str => z.length) (cs.map sgn)).sum = cs.length := by
  rw [List.map_map]
  induction cs with
  | nil => rfl
  | cons c r ih => rw [List.map_cons, List.sum_cons, ih, List.length_cons]; show 1 + r.length = r.length + 1; omega
theorem Lt.ok {c : Nat} (h : Lt c) : Okc c := by
  have := h.2
  unfold Okc
  omega
/-- a text of few signs, or a thing of another kind -/
def Txt1 (z : Str) : Prop := (tl z).length ≤ 1000 ∧ ∀ c ∈ tl z, Okc c
def Thing (K : PySem.W.Frag) (H : Hp) (v : V) : Prop := (∃ z : Str, v = .str z ∧ Txt1 z) ∨ Oth K H v
theorem cutS_mem (z : Str) (lo hi : Option Int) : ∀ c ∈ tl (cutS z lo hi), c ∈ tl z := by
  intro c hc
  exact List.mem_of_mem_drop (List.mem_of_mem_take hc)
theorem oth_int {K : PySem.W.Frag} {H : Hp} {i : Int} : Oth K H (.int i) := ⟨"int", .base (.int i), by decide +kernel⟩
theorem oth_bl {K : PySem.W.Frag} {H : Hp} {b : Bool} : Oth K H (.bl b) := ⟨"bool", .base (.bl b), by decide +kernel⟩
theorem oth_non {K : PySem.W.Frag} {H : Hp} : Oth K H .non := ⟨"NoneType", .base .non, by decide +kernel⟩
theorem oth_lst {K : PySem.W.Frag} {H : Hp} {a : Addr} {xs : List V} (h : H a = some (.lst xs)) : Oth K H (.ref a) := ⟨"list", .base (.lst h), by decide +kernel⟩
theorem oth_tup {K : PySem.W.Frag} {H : Hp} {a : Addr} {xs : List V} (h : H a = some (.tup xs)) : Oth K H (.ref a) := ⟨"tuple", .base (.tup h), by decide +kernel⟩
theorem Kp.newAt {l : List Addr} {H H' : Hp} {p : Addr} {o : HO} (a : Kp l H H') (h : H' p = none) : Kp l H (upd H' p o) := a.trans (Kp.new h)
theorem Same.kp {H0 H H' : Hp} {p : Addr} (a : Same H0 H) (k : Kp [p] H H') (h : H0 p = none) : Same H0 H' := fun b o e => k b o (a b o e) (by
  intro z
  have q := List.mem_singleton.mp z
  rw [q, h] at e
  cases e)
theorem Oth.mv {K : PySem.W.Frag} {H H' : Hp} {v : V} (h : Oth K H v) (s : Same H H') : Oth K H' v := by
  obtain ⟨T, ty, kb⟩ := h
  refine ⟨T, ?_, kb⟩
  cases ty with
  | base b =>
    generalize ht : Value.type T = t at b
    cases b with
    | non => injection ht with ht; subst ht; exact .base .non
    | bl x => injection ht with ht; subst ht; exact .base (.bl x)
    | int i => injection ht with ht; subst ht; exact .base (.int i)
    | str x => injection ht with ht; subst ht; exact .base (.str x)
    | flt x => injection ht with ht; subst ht; exact .base (.flt x)
    | lst e => injection ht with ht; subst ht; exact .base (.lst (s _ _ e))
    | frz e => injection ht with ht; subst ht; exact .base (.frz (s _ _ e))
    | tup e => injection ht with ht; subst ht; exact .base (.tup (s _ _ e))
    | dK e => injection ht with ht; subst ht; exact .base (.dK (s _ _ e))
    | dT e => injection ht with ht; subst ht; exact .base (.dT (s _ _ e))
    | ins e => cases ht
  | byt b => exact .byt b
  | set e => exact .set (s _ _ e)
  | kList e c => exact .kList e c
  | kTuple e c => exact .kTuple e c
  | kDict e c => exact .kDict e c
  | fTuple e => exact .fTuple (s _ _ e)
  | fDict e => exact .fDict (s _ _ e)
def spLaw (K : PySem.W.Frag) : Sp := fun vs H Q _ => ∃ (a : Addr) (ns : List Int), vs = [.ref a] ∧ SqL K H a (ns.map V.int) ∧ ns.length ≤ 63 ∧ ∀ H', Q (.bl true) H'
end IC
namespace IC
open PySem L2 TL
/-! ### a static method called by its class; list(text) -/
/-- C.m is a static method: its record at p, its def at g -/
structure SMet (K : PySem.W.Frag) (C : Addr) (mc : Value) (m : Str) (p g : Addr) : Prop where
  rd : ClX.CRead K C mc
  fnd : PySem.W.findCls K (.ref C) mc m = some (.get (.builtin "staticmethod.__get__") (.ref p) .none (.ref C))
  rec_ : ∃ rest, PySem.W.recIn K p "staticmethod" = some (.ref g :: rest)
  kp : PySem.W.keepIn K (.ref g) = true
def tSM (C : Addr) (sp : Sp) (ta : TE) (t : TA) : TE := fun σ H Q => ta σ H fun x H1 => x = .ref C ∧ t σ H1 fun vs H2 => sp vs H2 Q E0
theorem pe_smeth {X : Cx} {k j : Nat} {C p g : Addr} {mc : Value} {fd : FuncData} {ps : List Str} {sp : Sp} {o e : Expr} {es : List Expr} {m : Str} {pos apos : Pos} {ta : TE} {t : TA} {pl : Sem Bool}
    (ho : PE X o ta) (S : SMet X.K C mc m p g) (F : FnOk X.prog X.w X.K X.mg X.base CX0 k g fd ps sp) (hb : Binds X.K fd ps []) (hr : Room j X.A) (hk : k ≤ j) (ha : PA X (e :: es) t)
    (he : starEach (e :: es) X.env = (false, eval e X.env) :: starEach es X.env := by rfl) (hpl : (backTo pos (starEach es X.env)).any (·.1) = false := by rfl)
    (ht : eval (.Call (.Attribute o m apos) (e :: es) [] pos) X.env = (do
      let ov ← eval o X.env; standAt apos.atName
      let (f, first) ← holding [ov] (getMethod ov m pl); callWith pos f first (backTo pos (starEach (e :: es) X.env)) (backToKw pos (keywordEach [] X.env))) := by rfl) :
    PE X (.Call (.Attribute o m apos) (e :: es) [] pos) (tSM C sp ta t) := by
  refine ⟨fun pins s σ H Q I h => PySem.W.methodCall_KW (pl := pl) (thn (ho.run pins s σ H _ I h) fun u s1 ⟨x, H1, I1, rx, ex, q⟩ => ?_) ht⟩
  subst ex
  obtain rfl : u = Value.ref C := rx
  obtain ⟨rest, hrc⟩ := S.rec_
  refine PySem.W.method_cls I1.kIn S.rd.ga (PySem.W.cls_bind I1.kIn S.rd.rd S.fnd ?_)
  refine wpAny_call (PySem.W.sm_get (s := { s1 with toks := s1.toks + 1 }) I1.kIn hrc (PySem.W.handed_on rfl ?_))
  have I2 : Inv X pins σ H1 { s1 with toks := s1.toks + 1 } := I1.tok _
  exact PySem.W.callWith_K (h₀ := X.base) I2.ok.mod.kin S.kp (thn (ha.run pos pins _ σ H1 _ I2 q) fun us s3 ⟨vs, H3, I3, rv, q3⟩ => ⟨I3.kIn, run_fn F (hr.mono hk) hb .nil pass0 I3 rv (by rw [List.append_nil]; exact q3)⟩) he hpl
theorem vals_some : ∀ (its : List Value), (∀ u ∈ its, ∃ y, RelV y u) → ∃ ys, Vals ys its
  | [], _ => ⟨[], .nil⟩
  | u :: r, h => by
    obtain ⟨y, hy⟩ := h u List.mem_cons_self
    obtain ⟨ys, hys⟩ := vals_some r fun v hv => h v (List.mem_cons_of_mem _ hv)
    exact ⟨y :: ys, .cons hy hys⟩
/-- list(text): a new list -/
theorem call_list_txt {X : Cx} (hc : X.A.handled = none) : CallR X (.type "list") (fun xs H Q => ∃ z : Str, xs = [.str z] ∧ z.length ≤ sizeLine ∧ ∀ l ys, H l = none → Q (.ref l) (upd H l (.lst ys))) := by
  intro pins s σ H xs us Q I r h
  obtain ⟨z, rfl, hz, q⟩ := h
  obtain ⟨u, rfl, rx⟩ := vals1 r
  obtain ⟨t, rfl⟩ := rx
  refine call_list_str hc z t (fun h' tk acc c' kp e it => ?_) hz
  obtain ⟨ys, hys⟩ := vals_some acc.toList fun u hu => by
    obtain ⟨j, hj, e1⟩ := List.getElem_of_mem hu
    obtain ⟨c, w, _, rfl⟩ := it.2 j u (by
      rw [← e1]
      simp)
    exact ⟨.str ⟨#[c]⟩, w, rfl⟩
  have hl := hys.length
  refine ⟨.ref s.heap.objs.size, _, I.laid (t' := tk) kp (Nat.le_refl _) (show ObjOk X.prog X.w _ h' _ (.lst ys) from ⟨?_, acc.toList, c', hys, by simpa using e⟩), rfl, q _ ys (I.hok.fresh (Nat.le_refl _))⟩
  have h1 : acc.size = z.cps.size := it.1
  have h2 : acc.toList.length = acc.size := Array.length_toList
  rw [hl, h2, h1]
  exact hz
end IC
namespace IC
open PySem L2 TL
/-! ### the modes -/
def modesS : List Str := ["join", "inner", "apart", "must", "either", "never", "outside", "alone"]
def modesV : List V := modesS.map V.str
theorem mode_at (d : Int) (h0 : 0 ≤ d) (h1 : d < 8) : ∃ z : Str, atI modesV d = some (.str z) ∧ z ∈ modesS ∧ 4 ≤ (tl z).length ∧ (tl z).length ≤ 7 := by
  obtain ⟨j, rfl⟩ : ∃ j : Nat, d = j := ⟨d.toNat, by omega⟩
  have hj : j < 8 := by omega
  have all : ∀ k : Fin 8, ∃ z : Str, modesS[k.val]? = some z ∧ 4 ≤ (tl z).length ∧ (tl z).length ≤ 7 := by
    intro k
    match k with
    | 0 => exact ⟨"join", rfl, by decide +kernel, by decide +kernel⟩
    | 1 => exact ⟨"inner", rfl, by decide +kernel, by decide +kernel⟩
    | 2 => exact ⟨"apart", rfl, by decide +kernel, by decide +kernel⟩
    | 3 => exact ⟨"must", rfl, by decide +kernel, by decide +kernel⟩
    | 4 => exact ⟨"either", rfl, by decide +kernel, by decide +kernel⟩
    | 5 => exact ⟨"never", rfl, by decide +kernel, by decide +kernel⟩
    | 6 => exact ⟨"outside", rfl, by decide +kernel, by decide +kernel⟩
    | 7 => exact ⟨"alone", rfl, by decide +kernel, by decide +kernel⟩
  obtain ⟨z, h2, h3, h4⟩ := all ⟨j, hj⟩
  refine ⟨z, atI_nat ?_, List.mem_of_getElem? h2, h3, h4⟩
  unfold modesV
  rw [List.getElem?_map, h2]
  rfl
theorem modes_flat : modesV.all flatV = true := by decide +kernel
/-- what stands of the class Mode in the text -/
structure ModeTxt (K : PySem.W.Frag) (mg : Str → Option Value) (C p g t : Addr) (mc : Value) : Prop where
  mo : mg "Mode" = some (.ref C)
  rd : ClX.CRead K C mc
  all : ClX.CVal K C mc "ALL" (.ref t) (.ref t)
  tup : ∃ (o : Obj) (its : Array Value) (n : Nat), K.lookup t = some o ∧ o.cls = .type "tuple" ∧ o.data = .seq its n ∧ its.size ≤ sizeLine ∧ Vals modesV its.toList
  con : ∀ nm z : Str, (nm, z) ∈ ([("JOIN", "join"), ("INNER", "inner"), ("APART", "apart"), ("MUST", "must"), ("EITHER", "either"), ("NEVER", "never"), ("OUTSIDE", "outside"), ("ALONE", "alone")] : List (Str × Str)) → ∃ u, ClX.CVal K C mc nm (.str z) u
  sm : SMet K C mc "is_mode" p g
theorem ModeTxt.seq {K : PySem.W.Frag} {mg : Str → Option Value} {C p g t : Addr} {mc : Value} (M : ModeTxt K mg C p g t mc) (H : Hp) : SqT K H t modesV := .inr M.tup
/-- Mode.is_mode(thing), any value -/
def spIsMode (K : PySem.W.Frag) : Sp := fun vs H Q _ => ∃ v : V, vs = [v] ∧ ((∃ z : Str, v = .str z ∧ Q (.bl (inV v modesV)) H) ∨ (Oth K H v ∧ Q (.bl false) H))
end IC
namespace IC
open PySem L2 TL
/-! ### the text by places -/
def top (i : Nat) : Stmt := PySem.Challenge.pw_innercommits_k02_modes.main.body.getD i (.Pass ⟨0, 0, 0, 0⟩)
abbrev s_law_pool : Stmt := top 3
abbrev s_law_draw : Stmt := top 4
abbrev s_law_word : Stmt := top 5
abbrev s_Mode_is_mode : Stmt := inClass (top 1) 9
abbrev s_law_thing : Stmt := top 6
abbrev s_law : Stmt := top 7
theorem sc_law_pool : FnScope ["script", "at", "cell", "size", "seed"] ["script", "at"] (defScope s_law_pool) := ⟨rfl, rfl, rfl, by decide +kernel, rfl, by decide +kernel, by decide +kernel⟩
theorem sc_law_draw : FnScope ["pool", "many", "digit", "count", "mixed"] ["pool", "many"] (defScope s_law_draw) := ⟨rfl, rfl, rfl, by decide +kernel, rfl, by decide +kernel, by decide +kernel⟩
theorem sc_law_word : FnScope ["pool", "letters", "k"] ["pool"] (defScope s_law_word) := ⟨rfl, rfl, rfl, by decide +kernel, rfl, by decide +kernel, by decide +kernel⟩
theorem sc_Mode_is_mode : FnScope ["thing"] ["thing"] (defScope s_Mode_is_mode) := ⟨rfl, rfl, rfl, by decide +kernel, rfl, by decide +kernel, by decide +kernel⟩
theorem sc_law_thing : FnScope ["pool", "modes", "letters", "mode", "sort", "at", "letter"] ["pool", "modes"] (defScope s_law_thing) := ⟨rfl, rfl, rfl, by decide +kernel, rfl, by decide +kernel, by decide +kernel⟩
theorem sc_law : FnScope ["script", "modes", "told", "at", "pool", "turn", "thing", "answer"] ["script"] (defScope s_law) := ⟨rfl, rfl, rfl, by decide +kernel, rfl, by decide +kernel, by decide +kernel⟩
/-- the built-in names that no line of the text binds -/
structure Bn (mg : Str → Option Value) : Prop where
  int : mg "int" = none
  len : mg "len" = none
  abs : mg "abs" = none
  range : mg "range" = none
  max : mg "max" = none
  min : mg "min" = none
  isi : mg "isinstance" = none
  str : mg "str" = none
  tuple : mg "tuple" = none
  list : mg "list" = none
end IC
namespace IC
open PySem L2 TL
section
variable {P : Program} {w : World} {K : PySem.W.Frag} {mg : Str → Option Value} {base : Heap}
theorem ok_draw {f : Addr} {fd : FuncData} (F : Fun K "_law_draw" "_law_draw" s_law_draw f fd) (T : Bn mg) : FnOk P w K mg base CX0 1 f fd ["pool", "many"] spDraw := by
  refine F.ok sc_law_draw (fun vs H Q E h => ?_) (fun cdv A outer s H vs Q E hr h => ?_)
  · obtain ⟨p, m, n, rfl, _⟩ := h
    rfl
  · obtain ⟨p, m, n, rfl, ⟨a, b, c, hp, a0, b0, b1, c0, c1⟩, hn, m0, m1, k⟩ := h
    refine ⟨_, (pss_cons (ps_if (pt_cmpR op_gt (pe_ix ix_list (pv 0) pe_int (fun _ _ => rfl)) pe_int (nomark _))
  (pss_cons (ps_set (i := 2) sc_law_draw.nd rfl (Or.inl rfl) (pe_op op_mod (pe_callTy call_int1 (by rfl) T.int (by decide +kernel) (pa_cons (pe_ix ix_list (pv 0) pe_int (fun _ _ => rfl)) pa_nil)) (pv 1)))
  (pss_cons (ps_asg (pe_op op_fdivW (pe_ix ix_list (pv 0) pe_int (fun _ _ => rfl)) (pv 1)) (pg_sub (pv 0) pe_int set_list))
  (pss_one (ps_ret (pv 2)))))
  pss_nil)
  (pss_cons (ps_set (i := 3) sc_law_draw.nd rfl (Or.inl rfl) (pe_op op_add (pe_ix ix_list (pv 0) pe_int (fun _ _ => rfl)) pe_int))
  (pss_cons (ps_asg (pv 3) (pg_sub (pv 0) pe_int set_list))
  (pss_cons (ps_set (i := 4) sc_law_draw.nd rfl (Or.inl rfl) (pe_op op_mod (pe_callTy call_int1 (by rfl) T.int (by decide +kernel) (pa_cons (pe_op op_add (pe_op op_pow (pe_op op_add (pe_ix ix_list (pv 0) pe_int (fun _ _ => rfl)) (pe_op op_mul pe_int (pv 3))) pe_int) (pe_op op_mul pe_int (pv 3))) pa_nil)) pe_int))
  (pss_cons (ps_set (i := 4) sc_law_draw.nd rfl (Or.inl rfl) (pe_op op_mod (pe_callTy call_int1 (by rfl) T.int (by decide +kernel) (pa_cons (pe_op op_pow (pe_op op_add (pv 4) (pe_op op_mul pe_int (pv 3))) pe_int) pa_nil)) pe_int))
  (pss_one (ps_ret (pe_op op_mod (pe_callTy call_int1 (by rfl) T.int (by decide +kernel) (pa_cons (pe_op op_fdiv (pv 4) pe_int) pa_nil)) (pv 1))))))))), ?_⟩
    have g0 : atI (pl a b c) 0 = some (.int a) := rfl
    have g1 : atI (pl a b c) 1 = some (.int b) := rfl
    have g2 : atI (pl a b c) 2 = some (.int c) := rfl
    refine ⟨_, rfl, p, pl a b c, 0, _, rfl, rfl, SqL.of hp, g0, a, 0, rfl, rfl, _, rfl, ?_⟩
    refine ite2 (fun hpos => ?_) (fun hneg => ?_)
    · refine ⟨_, rfl, p, pl a b c, 0, _, rfl, rfl, SqL.of hp, g0, .inl ⟨a, rfl, _, rfl, a, m, rfl, rfl, m0, ?_⟩⟩
      refine ⟨_, rfl, p, pl a b c, 0, _, rfl, rfl, SqL.of hp, g0, _, rfl, a, m, rfl, rfl, wide_div m0 m1 (by decide) (by decide), _, rfl, p, pl a b c, 0, 0, rfl, rfl, hp, rfl, ?_⟩
      refine ⟨_, rfl, ?_⟩
      refine k (a % m) _ (Int.emod_nonneg _ (by omega)) (Int.emod_lt_of_pos _ m0) ⟨a / m, b, c, upd_same, Int.ediv_nonneg a0 (by omega), b0, b1, c0, by omega⟩
    · refine ⟨_, rfl, p, pl a b c, 2, _, rfl, rfl, SqL.of hp, g2, c, 1, rfl, rfl, ?_⟩
      refine ⟨_, rfl, _, rfl, p, pl a b c, 2, 2, rfl, rfl, hp, rfl, ?_⟩
      have g1' : atI ((pl a b c).set 2 (.int (c + 1))) 1 = some (.int b) := rfl
      refine ⟨_, rfl, p, _, 1, _, rfl, rfl, SqL.of upd_same, g1', _, rfl, 48611, c + 1, rfl, rfl, .inl (by decide), b, _, rfl, rfl, _, 3, rfl, rfl, ⟨by decide, by decide, by omega⟩, _, rfl, 17, c + 1, rfl, rfl, .inl (by decide), _, _, rfl, rfl, .inl ⟨_, rfl, _, _, rfl, rfl, (by show (0 : Int) < 2305843009213693921; decide), ?_⟩⟩
      have hX : 0 ≤ ((b + 48611 * (c + 1)) ^ Int.toNat 3 + 17 * (c + 1)) % 2305843009213693921 ∧ ((b + 48611 * (c + 1)) ^ Int.toNat 3 + 17 * (c + 1)) % 2305843009213693921 < 2305843009213693921 :=
        ⟨Int.emod_nonneg _ (by decide), Int.emod_lt_of_pos _ (by decide)⟩
      dsimp only
      generalize ((b + 48611 * (c + 1)) ^ Int.toNat 3 + 17 * (c + 1)) % 2305843009213693921 = X at hX ⊢
      obtain ⟨x0, x1⟩ := hX
      refine ⟨_, rfl, _, rfl, 104729, c + 1, rfl, rfl, .inl (by decide), X, _, rfl, rfl, _, 3, rfl, rfl, ⟨by decide, by decide, by omega⟩, .inl ⟨_, rfl, _, _, rfl, rfl, (by show (0 : Int) < 1000000000000000003; decide), ?_⟩⟩
      have hY : 0 ≤ (X + 104729 * (c + 1)) ^ Int.toNat 3 % 1000000000000000003 := Int.emod_nonneg _ (by decide)
      refine ⟨_, rfl, _, _, rfl, rfl, ⟨by decide, by decide⟩, .inl ⟨_, rfl, _, rfl, _, m, rfl, rfl, m0, ?_⟩⟩
      refine k _ _ (Int.emod_nonneg _ (by omega)) (Int.emod_lt_of_pos _ m0) ⟨a, b, c + 1, upd_same, a0, b0, b1, by omega, by omega⟩
theorem ok_pool {f : Addr} {fd : FuncData} (F : Fun K "_law_pool" "_law_pool" s_law_pool f fd) (T : Bn mg) : FnOk P w K mg base CX0 1 f fd ["script", "at"] (spPool K) := by
  refine F.ok sc_law_pool (fun vs H Q E h => ?_) (fun cdv A outer s H vs Q E hr h => ?_)
  · obtain ⟨a, ns, j, rfl, _⟩ := h
    rfl
  · obtain ⟨a, ns, j, rfl, hS, hj, k⟩ := h
    refine ⟨_, (Evl.pss_cut (ps_set (i := 2) sc_law_pool.nd rfl (Or.inl rfl) (pe_ifExp (pt_cmpR op_lt (pv 1) (pe_callB call_len_seq (by rfl) T.len PySem.boot_len (pa_cons (pv 0) pa_nil)) (nomark _)) (pe_ix ix_list (pv 0) (pv 1) (fun _ _ => rfl)) pe_int))
  (pss_cons (ps_set (i := 3) sc_law_pool.nd rfl (Or.inl rfl) (pe_callB call_abs (by rfl) T.abs PyProof.Rows.boot_abs (pa_cons (pv 2) pa_nil)))
  (pss_cons (ps_set (i := 4) sc_law_pool.nd rfl (Or.inl rfl) (pe_op op_mod (pe_callTy call_int1 (by rfl) T.int (by decide +kernel) (pa_cons (pe_op op_add (pe_op op_add (pe_op op_mul (pv 3) pe_int) (pe_op op_mul pe_int (pv 1))) (pe_callTy call_int1 (by rfl) T.int (by decide +kernel) (pa_cons (pe_cmpR op_lt (pv 2) pe_int (nomark _)) pa_nil))) pa_nil)) pe_int))
  (pss_one (ps_ret (pe_lst (pa_cons (pe_ifExp (pt_cmpR op_ge (pv 3) (pe_op op_pow pe_int pe_int) (nomark _)) (pv 3) pe_int) (pa_cons (pe_op op_add (pv 4) pe_int) (pa_cons pe_int pa_nil))))))))), ?_⟩
    have hj' : (j : Int) < 64 := by omega
    refine ⟨fun σ H' => H' = H ∧ ∃ c : Int, σ = [some (.ref a), some (.int j), some (.int c), none, none], ?_, ?_⟩
    · refine ⟨_, rfl, _, rfl, a, _, rfl, .inl hS, _, _, rfl, rfl, _, rfl, ?_⟩
      refine ite2 (fun hlt => ?_) (fun _ => ⟨rfl, 0, rfl⟩)
      have hlt := of_decide_eq_true hlt
      have hl : j < ns.length := by
        rw [List.length_map] at hlt
        exact Int.ofNat_lt.mp hlt
      have hz : (ns.map V.int)[j]? = some (V.int ns[j]) := by
        rw [List.getElem?_map, List.getElem?_eq_getElem hl]
        rfl
      exact ⟨_, rfl, _, rfl, a, _, _, _, rfl, rfl, hS, atI_nat hz, rfl, _, rfl⟩
    · rintro σ H' ⟨rfl, c, rfl⟩
      refine ⟨_, rfl, c, rfl, ?_⟩
      refine ⟨_, rfl, _, 6, rfl, rfl, .inr (by decide), _, rfl, 2, j, rfl, rfl, .inl (by decide), _, _, rfl, rfl, _, rfl, c, 0, rfl, rfl, .inr ⟨_, rfl, _, _, rfl, rfl, .inl ⟨_, rfl, _, _, rfl, rfl, (by show (0 : Int) < 2305843009213693951; decide), ?_⟩⟩⟩
      refine ⟨_, rfl, 10, 18, rfl, rfl, ⟨by decide, by decide, by decide⟩, _, _, rfl, rfl, _, rfl, ?_⟩
      have h0 : (0 : Int) ≤ if c < 0 then -c else c := by split <;> omega
      have fin : ∀ x y : Int, 0 ≤ x → ∀ p, H' p = none → Q (.ref p) (upd H' p (.lst [.int x, .int (y % 2305843009213693951 + 12345), .int 0])) := fun x y hx p hp => by
        have e1 := Int.emod_nonneg y (show (2305843009213693951 : Int) ≠ 0 by decide)
        have e2 := Int.emod_lt_of_pos y (show (0 : Int) < 2305843009213693951 by decide)
        exact k p _ hp ⟨x, _, 0, upd_same, hx, by omega, by omega, by omega, by omega⟩
      refine ite2 (fun _ => ?_) (fun _ => ?_)
      · exact ⟨_, rfl, _, rfl, _, _, rfl, rfl, (by show 3 ≤ sizeLine; decide), fun p hp => fin _ _ h0 p hp⟩
      · exact ⟨_, rfl, _, _, rfl, rfl, (by show 3 ≤ sizeLine; decide), fun p hp => fin 0 _ (by decide) p hp⟩
end
end IC
namespace IC
open PySem L2 TL
section
variable {P : Program} {w : World} {K : PySem.W.Frag} {mg : Str → Option Value} {base : Heap}
theorem ok_word {f : Addr} {fd : FuncData} (F : Fun K "_law_word" "_law_word" s_law_word f fd) (T : Bn mg) (D_law_draw : Df P w K mg base 1 "_law_draw" ["pool", "many"] spDraw) : FnOk P w K mg base CX0 2 f fd ["pool"] spWord := by
  refine F.ok sc_law_word (fun vs H Q E h => ?_) (fun cdv A outer s H vs Q E hr h => ?_)
  · obtain ⟨p, n, rfl, _⟩ := h
    rfl
  · obtain ⟨p, n, rfl, hp, hn, k⟩ := h
    refine ⟨_, (pss_cons (ps_set (i := 1) sc_law_word.nd rfl (Or.inr rfl) pe_str)
  (pss_one (ps_ret (pe_join pe_str (pe_lc (own := [("k", 2)]) (g := gName 2) (tt := tYes) rfl sc_law_word.nd (pi_range1 rfl T.range (pa_cons (pe_op op_add pe_int (pe_df D_law_draw hr (by decide) rfl (pa_cons (pv 0) (pa_cons pe_int pa_nil)))) pa_nil)) (blkOk_by (N := ["pool", "letters", "k"]) (sc := defScope s_law_word) (by decide +kernel)) (fun _ _ _ _ _ => pg_name (i := 2) sc_law_word.nd rfl (Or.inl rfl)) (fun _ _ _ _ _ => pts_nil) (fun _ _ _ _ _ => (pe_ix ix_str (pv 1) (pe_df D_law_draw hr (by decide) rfl (pa_cons (pv 0) (pa_cons pe_int pa_nil))) (fun _ _ => rfl)))))))), ?_⟩
    refine ⟨⟨_, rfl⟩, _, rfl, p, 8, n, rfl, hp, by omega, by decide, by decide, fun d o d0 d8 hp1 => ⟨_, _, rfl, rfl, _, rfl, by omega, by omega, fun D hD => ?_⟩⟩
    obtain ⟨hpD, hDn⟩ := none_of hD
    refine lc_range (lo := 0) (n := (1 + d).toNat) (fun i H' => ∃ cs : List Nat, cs.length = i ∧ (∀ c ∈ cs, Lt c) ∧ H' D = some (.lst ((cs.map sgn).map V.str)) ∧ PoolAt H' p (n + 1 + i) ∧ Kp [p] H H')
      ⟨[], rfl, by simp, upd_same, (hp1.mv fun u e => by rw [upd_ne hpD]; exact e).up (by omega), (Kp.at_ (by simp)).trans (Kp.new hD)⟩ ?_ ?_
    · rintro i H' hi ⟨cs, hl, hc, hcD, hp2, kp⟩
      refine ⟨rfl, ?_⟩
      refine ⟨_, rfl, _, rfl, p, 26, n + 1 + i, rfl, hp2, by omega, by decide, by decide, fun e o2 e0 e1 hp3 => ?_⟩
      obtain ⟨c, hat, hL⟩ := abc_at e e0 e1
      refine ⟨_, e, c, rfl, rfl, by decide +kernel, hat, ?_⟩
      refine ⟨_, (by rw [upd_ne hpD.symm]; exact hcD), small1000 (by rw [List.length_map, List.length_map]; omega), cs ++ [c], by simp [hl], ?_, ?_, ?_, (kp.mutAt (by simp)).mut hDn⟩
      · intro x hx
        rcases List.mem_append.mp hx with hx | hx
        · exact hc x hx
        · rw [List.mem_singleton.mp hx]; exact hL
      · rw [upd_same, List.map_append, List.map_append]
        rfl
      · exact (hp3.mv fun u q => by rw [upd_ne hpD]; exact q).up (by omega)
    · rintro H' ⟨cs, hl, hc, hcD, hp2, kp⟩
      refine ⟨_, D, cs.map sgn, rfl, rfl, .inl (SqL.of hcD), ?_, ?_⟩
      · have e : (List.map (fun z : Str => z.length) (cs.map sgn)).sum = cs.length := by
          rw [List.map_map]
          clear hl hc hcD hp2 kp
          induction cs with
          | nil => rfl
          | cons c r ih => rw [List.map_cons, List.sum_cons, ih, List.length_cons]; show 1 + r.length = r.length + 1; omega
        rw [e, List.length_map, hl]
        show (1 + d).toNat + (1 + d).toNat * 0 ≤ 16777216
        omega
      · have et := tl_joined cs
        refine k _ H' ⟨?_, ?_, ?_⟩ (hp2.up (by omega)) kp
        · rw [et, hl]; omega
        · rw [et, hl]; omega
        · rw [et]; exact hc
end
end IC
namespace IC
open PySem L2 TL
section
variable {P : Program} {w : World} {K : PySem.W.Frag} {mg : Str → Option Value} {base : Heap}
theorem ok_is_mode {f C p t : Addr} {mc : Value} {fd : FuncData} (F : Fun K "is_mode" "Mode.is_mode" s_Mode_is_mode f fd) (T : Bn mg) (M : ModeTxt K mg C p f t mc) : FnOk P w K mg base CX0 1 f fd ["thing"] (spIsMode K) := by
  refine F.ok sc_Mode_is_mode (fun vs H Q E h => ?_) (fun cdv A outer s H vs Q E hr h => ?_)
  · obtain ⟨v, rfl, _⟩ := h
    rfl
  · obtain ⟨v, rfl, h⟩ := h
    refine ⟨_, (pss_one (ps_ret (pe_and (pe_callB call_isi (by rfl) T.isi PyProof.Rows.boot_isinstance (pa_cons (pv 0) (pa_cons (pe_bltn (v := .ty "str") (by rfl) T.str (by decide +kernel) rfl) pa_nil))) (pe_one (pe_cmpR op_in_seq (pv 0) (ClX.pe_cval (pe_glob (v := .ref _) rfl M.mo rfl)) (by rfl)))))), ?_⟩
    rcases h with ⟨z, rfl, k⟩ | ⟨⟨T', ty, kb⟩, k⟩
    · refine ⟨_, rfl, .str z, .ty "str", .type "str", .type "str", true, rfl, .ty "str", .base (.str z), kit_ty (by decide +kernel), true, rfl, ?_⟩
      exact ⟨_, rfl, C, mc, _, _, rfl, M.rd, M.all, t, modesV, rfl, .inr (M.seq H), rfl, modes_flat, k⟩
    · refine ⟨_, rfl, v, .ty "str", .type T', .type "str", false, rfl, .ty "str", ty, kit_ty kb, false, rfl, ?_⟩
      exact k
end
end IC
namespace IC
open PySem L2 TL
def Thing2 (K : PySem.W.Frag) (H : Hp) (v : V) : Prop := (∃ z : Str, v = .str z) ∨ Oth K H v
def spThing (K : PySem.W.Frag) : Sp := fun vs H Q _ => ∃ (p md : Addr) (n : Int), vs = [.ref p, .ref md] ∧ PoolAt H p n ∧ n < 800000000 ∧ H md = some (.lst modesV) ∧
  ∀ (v : V) (H' : Hp), PoolAt H' p (n + 20) → Kp [p] H H' → Thing2 K H' v → Q v H'
theorem sep_at (d : Int) (h0 : 0 ≤ d) (h1 : d < 3) : ∃ z : Str, atI [V.str "", .str " ", .str ","] d = some (.str z) ∧ (tl z).length ≤ 1 := by
  obtain ⟨j, rfl⟩ : ∃ j : Nat, d = j := ⟨d.toNat, by omega⟩
  have hj : j < 3 := by omega
  match j, hj with
  | 0, _ => exact ⟨"", rfl, by decide +kernel⟩
  | 1, _ => exact ⟨" ", rfl, by decide +kernel⟩
  | 2, _ => exact ⟨",", rfl, by decide +kernel⟩
section
variable {P : Program} {w : World} {K : PySem.W.Frag} {mg : Str → Option Value} {base : Heap}
theorem ok_thing {f : Addr} {fd : FuncData} (F : Fun K "_law_thing" "_law_thing" s_law_thing f fd) (T : Bn mg) (D_law_draw : Df P w K mg base 1 "_law_draw" ["pool", "many"] spDraw) (D_law_word : Df P w K mg base 2 "_law_word" ["pool"] spWord) :
    FnOk P w K mg base CX0 3 f fd ["pool", "modes"] (spThing K) := by
  refine F.ok sc_law_thing (fun vs H Q E h => ?_) (fun cdv A outer s H vs Q E hr h => ?_)
  · obtain ⟨p, md, n, rfl, _⟩ := h
    rfl
  · obtain ⟨p, md, n, rfl, hp, hn, hm, k⟩ := h
    refine ⟨_, (pss_cons (ps_set (i := 2) sc_law_thing.nd rfl (Or.inl rfl) pe_str)
  (pss_cons (ps_set (i := 3) sc_law_thing.nd rfl (Or.inl rfl) (pe_ix ix_list (pv 1) (pe_df D_law_draw hr (by decide) rfl (pa_cons (pv 0) (pa_cons pe_int pa_nil))) (fun _ _ => rfl)))
  (pss_cons (ps_set (i := 4) sc_law_thing.nd rfl (Or.inl rfl) (pe_df D_law_draw hr (by decide) rfl (pa_cons (pv 0) (pa_cons pe_int pa_nil))))
  (pss_cons (ps_set (i := 5) sc_law_thing.nd rfl (Or.inl rfl) (pe_df D_law_draw hr (by decide) rfl (pa_cons (pv 0) (pa_cons (pe_callB call_len_str (by rfl) T.len PySem.boot_len (pa_cons (pv 3) pa_nil)) pa_nil))))
  (pss_cons (ps_set (i := 6) sc_law_thing.nd rfl (Or.inl rfl) (pe_ix ix_str (pv 2) (pe_df D_law_draw hr (by decide) rfl (pa_cons (pv 0) (pa_cons pe_int pa_nil))) (fun _ _ => rfl)))
  (pss_cons (ps_if (pt_cmpR op_lt (pv 4) pe_int (nomark _))
  (pss_one (ps_ret (pv 3)))
  pss_nil)
  (pss_cons (ps_if (pt_cmpR op_eq (pv 4) pe_int (nomark _))
  (pss_one (ps_ret (pe_op op_add_str (pe_op op_add_str (pe_slice sl_str (pv 3) po_none (po_some (pv 5))) (pv 6)) (pe_slice sl_str (pv 3) (po_some (pe_op op_add (pv 5) pe_int)) po_none))))
  pss_nil)
  (pss_cons (ps_if (pt_cmpR op_eq (pv 4) pe_int (nomark _))
  (pss_one (ps_ret (pe_op op_add_str (pe_op op_add_str (pe_slice sl_str (pv 3) po_none (po_some (pv 5))) (pv 6)) (pe_slice sl_str (pv 3) (po_some (pv 5)) po_none))))
  pss_nil)
  (pss_cons (ps_if (pt_cmpR op_eq (pv 4) pe_int (nomark _))
  (pss_one (ps_ret (pe_op op_add_str (pe_slice sl_str (pv 3) po_none (po_some (pv 5))) (pe_slice sl_str (pv 3) (po_some (pe_op op_add (pv 5) pe_int)) po_none))))
  pss_nil)
  (pss_cons (ps_if (pt_cmpR op_eq (pv 4) pe_int (nomark _))
  (pss_one (ps_ret (pe_op op_add_str (pe_op op_add_str (pv 3) (pe_ix ix_list (pe_lst (pa_cons pe_str (pa_cons pe_str (pa_cons pe_str pa_nil)))) (pe_df D_law_draw hr (by decide) rfl (pa_cons (pv 0) (pa_cons pe_int pa_nil))) (fun _ _ => rfl))) (pe_ix ix_list (pv 1) (pe_df D_law_draw hr (by decide) rfl (pa_cons (pv 0) (pa_cons pe_int pa_nil))) (fun _ _ => rfl)))))
  pss_nil)
  (pss_cons (ps_if (pt_cmpR op_eq (pv 4) pe_int (nomark _))
  (pss_one (ps_ret (pe_df D_law_word hr (by decide) rfl (pa_cons (pv 0) pa_nil))))
  pss_nil)
  (pss_one (ps_ret (pe_ix ix_list (pe_lst (pa_cons (pv 5) (pa_cons pe_non (pa_cons pe_bl (pa_cons (pe_lst (pa_cons (pv 3) pa_nil)) (pa_cons (pe_tup (pa_cons (pv 3) pa_nil)) (pa_cons pe_str (pa_cons (pe_upper (pv 3)) (pa_cons (pe_callTy (call_list_txt hr.hd) (by rfl) T.list (by decide +kernel) (pa_cons (pv 3) pa_nil)) pa_nil))))))))) (pe_df D_law_draw hr (by decide) rfl (pa_cons (pv 0) (pa_cons pe_int pa_nil))) (fun _ _ => rfl))))))))))))))), ?_⟩
    have pm : md ≠ p := by
      rintro rfl
      obtain ⟨a, b, c, e, _⟩ := hp
      rw [e] at hm
      injection hm with hm
      injection hm with hm
      exact absurd (congrArg List.length hm) (by show ¬ (3 = 8); decide)
    have mdk : ∀ {H' : Hp} (o : HO), H' md = some (.lst modesV) → upd H' p o md = some (.lst modesV) := fun o e => by rw [upd_ne pm]; exact e
    -- mode, sort, at, letter
    refine ⟨_, rfl, _, rfl, p, 8, n, rfl, hp, by omega, by decide, by decide, fun d0 o0 a0 b0 hp0 => ?_⟩
    obtain ⟨z, hz, hzm, zl, zu⟩ := mode_at d0 a0 b0
    have m0 := mdk o0 hm
    refine ⟨md, modesV, d0, _, rfl, rfl, SqL.of m0, hz, ?_⟩
    have zL : z.length ≤ sizeLine := len_le (by omega)
    have zlen := len_tl z
    refine ⟨_, rfl, p, 8, n + 1, rfl, hp0, by omega, by decide, by decide, fun sort o1 s0 s8 hp1 => ?_⟩
    have m1 := mdk o1 m0
    refine ⟨_, rfl, _, rfl, z, rfl, zL, p, z.length, n + 2, rfl, hp1.up (by omega), by omega, by omega, by omega, fun j o2 j0 j1 hp2 => ?_⟩
    have m2 := mdk o2 m1
    refine ⟨_, rfl, _, rfl, p, 26, n + 3, rfl, hp2.up (by omega), by omega, by decide, by decide, fun e o3 e0 e1 hp3 => ?_⟩
    obtain ⟨c, hat, hL⟩ := abc_at e e0 e1
    refine ⟨_, e, c, rfl, rfl, by decide +kernel, hat, ?_⟩
    have m3 := mdk o3 m2
    have kp3 : Kp [p] H (upd (upd (upd (upd H p o0) p o1) p o2) p o3) := (((Kp.at_ (List.mem_singleton.mpr rfl)).mutAt (List.mem_singleton.mpr rfl)).mutAt (List.mem_singleton.mpr rfl)).mutAt (List.mem_singleton.mpr rfl)
    generalize upd (upd (upd (upd H p o0) p o1) p o2) p o3 = H3 at hp3 m3 kp3 ⊢
    have fin : ∀ (x : Str), Q (.str x) H3 := fun x => k _ _ (hp3.up (by omega)) kp3 (.inl ⟨x, rfl⟩)
    have c1 : ∀ lo hi, (cutS z lo hi).length ≤ 7 := fun lo hi => Nat.le_trans (cutS_length z lo hi) (by omega)
    have sum3 : ∀ (a b : Str), a.length ≤ 20 → b.length ≤ 20 → a.length + b.length ≤ sizeLine := fun a b h1 h2 => Nat.le_of_lt (small1000 (by omega))
    have app : ∀ (a b : Str), (a ++ b).length = a.length + b.length := fun a b => by rw [len_tl, tl_append, List.length_append, ← len_tl, ← len_tl]
    have l1 : (⟨#[c]⟩ : Str).length = 1 := rfl
    refine ⟨_, rfl, sort, 2, rfl, rfl, _, rfl, ?_⟩
    refine ite2 (fun _ => ⟨_, rfl, fin z⟩) (fun _ => ?_)
    refine ⟨_, rfl, rfl, _, rfl, ?_⟩
    refine ite2 (fun _ => ?_) (fun _ => ?_)
    · have b1 := c1 none (some j)
      have b2 := c1 (some (j + 1)) none
      refine ⟨_, rfl, _, rfl, j, rfl, z, rfl, zL, _, rfl, _, _, rfl, rfl, sum3 _ _ (by omega) (by omega), ?_⟩
      refine ⟨_, rfl, _, rfl, _, _, rfl, rfl, _, rfl, z, rfl, zL, _, _, rfl, rfl, sum3 _ _ (by rw [app]; omega) (by omega), fin _⟩
    refine ⟨_, rfl, rfl, _, rfl, ?_⟩
    refine ite2 (fun _ => ?_) (fun _ => ?_)
    · have b1 := c1 none (some j)
      have b2 := c1 (some j) none
      refine ⟨_, rfl, _, rfl, j, rfl, z, rfl, zL, _, rfl, _, _, rfl, rfl, sum3 _ _ (by omega) (by omega), ?_⟩
      refine ⟨_, rfl, _, rfl, j, rfl, z, rfl, zL, _, _, rfl, rfl, sum3 _ _ (by rw [app]; omega) (by omega), fin _⟩
    refine ⟨_, rfl, rfl, _, rfl, ?_⟩
    refine ite2 (fun _ => ?_) (fun _ => ?_)
    · have b1 := c1 none (some j)
      have b2 := c1 (some (j + 1)) none
      refine ⟨_, rfl, _, rfl, j, rfl, z, rfl, zL, ?_⟩
      refine ⟨_, rfl, _, rfl, _, _, rfl, rfl, _, rfl, z, rfl, zL, _, _, rfl, rfl, sum3 _ _ (by omega) (by omega), fin _⟩
    refine ⟨_, rfl, rfl, _, rfl, ?_⟩
    refine ite2 (fun _ => ?_) (fun _ => ?_)
    · refine ⟨_, rfl, (by show 3 ≤ sizeLine; decide), fun a na => ?_⟩
      have pa : p ≠ a := by
        obtain ⟨_, _, _, q, _⟩ := hp3
        exact ne_of_none q na
      refine ⟨_, rfl, p, 3, n + 4, rfl, (hp3.mv fun u q => by rw [upd_ne pa]; exact q).up (by omega), by omega, by decide, by decide, fun x o4 x0 x3 hp4 => ?_⟩
      obtain ⟨y, hy, yl⟩ := sep_at x x0 x3
      refine ⟨a, _, x, _, rfl, rfl, SqL.of (by rw [upd_ne pa.symm]; exact upd_same), hy, _, _, rfl, rfl, sum3 _ _ (by omega) (by rw [len_tl]; omega), ?_⟩
      refine ⟨_, rfl, _, rfl, p, 8, n + 5, rfl, hp4.up (by omega), by omega, by decide, by decide, fun x2 o5 x20 x28 hp5 => ?_⟩
      obtain ⟨z2, hz2, _, z2l, z2u⟩ := mode_at x2 x20 x28
      have ma : md ≠ a := ne_of_none m3 na
      refine ⟨md, modesV, x2, _, rfl, rfl, SqL.of (mdk _ (mdk _ (by rw [upd_ne ma]; exact m3))), hz2, _, _, rfl, rfl, sum3 _ _ (by rw [app, len_tl y]; omega) (by rw [len_tl]; omega), ?_⟩
      exact k _ _ (hp5.up (by omega)) (((kp3.newAt na).mutAt (List.mem_singleton.mpr rfl)).mutAt (List.mem_singleton.mpr rfl)) (.inl ⟨_, rfl⟩)
    refine ⟨_, rfl, rfl, _, rfl, ?_⟩
    refine ite2 (fun _ => ?_) (fun _ => ?_)
    · refine ⟨_, rfl, p, n + 4, rfl, hp3.up (by omega), by omega, fun x H4 _ hp4 kp4 => ?_⟩
      exact k _ _ (hp4.up (by omega)) (kp3.trans kp4) (.inl ⟨x, rfl⟩)
    -- the list of eight things
    refine ⟨_, rfl, _, rfl, (by show 1 ≤ sizeLine; decide), fun a1 n1 => ⟨_, rfl, (by show 1 ≤ sizeLine; decide), fun a2 n2 => ?_⟩⟩
    refine ⟨_, rfl, ⟨_, rfl⟩, z, rfl, rfl, by omega, ?_⟩
    refine ⟨_, rfl, z, rfl, zL, fun a3 ys n3 => ⟨(by show 8 ≤ sizeLine; decide), fun L nL => ?_⟩⟩
    have s1 := Same.new (o := .lst [.str z]) n1
    have s2 := Same.new (o := .tup [.str z]) n2
    have s3 := Same.new (o := .lst ys) n3
    have s4 := Same.new (o := .lst [.int j, .non, .bl true, .ref a1, .ref a2, .str "", .str (Txt.upper z), .ref a3]) nL
    have e1 := s4 _ _ (s3 _ _ (s2 a1 _ (upd_same (H := H3) (a := a1) (o := .lst [.str z]))))
    have e2 := s4 _ _ (s3 a2 _ upd_same)
    have e3 := s4 a3 _ upd_same
    have pn : ∀ q, H3 q = none → q ≠ p := fun q h e => by
      obtain ⟨_, _, _, q2, _⟩ := hp3
      rw [e, q2] at h
      cases h
    have b1 : a1 ≠ p := pn _ n1
    have b2 : a2 ≠ p := pn _ (s1.free n2)
    have b3 : a3 ≠ p := pn _ (s1.free (s2.free n3))
    have b4 : L ≠ p := pn _ (s1.free (s2.free (s3.free nL)))
    have hpp := hp3.mv (s1.trans (s2.trans (s3.trans s4)) p)
    refine ⟨_, rfl, p, 8, n + 4, rfl, hpp.up (by omega), by omega, by decide, by decide, fun x o4 x0 x1 hp4 => ?_⟩
    have kp' := ((((kp3.newAt (o := .lst [.str z]) n1).newAt (o := .tup [.str z]) n2).newAt (o := .lst ys) n3).newAt (o := .lst [.int j, .non, .bl true, .ref a1, .ref a2, .str "", .str (Txt.upper z), .ref a3]) nL).mutAt (o := o4) (List.mem_singleton.mpr rfl)
    have fin2 : ∀ v : V, Thing2 K _ v → Q v _ := fun v ho => k v _ (hp4.up (by omega)) kp' ho
    obtain ⟨i, rfl⟩ : ∃ i : Nat, x = i := ⟨x.toNat, by omega⟩
    have hi : i < 8 := by omega
    refine ⟨L, [.int j, .non, .bl true, .ref a1, .ref a2, .str "", .str (Txt.upper z), .ref a3], i, _, rfl, rfl, SqL.of (by rw [upd_ne b4]; exact upd_same), atI_nat (List.getElem?_eq_getElem (by simpa using hi)), ?_⟩
    refine fin2 _ ?_
    match i, hi with
    | 0, _ => exact .inr oth_int
    | 1, _ => exact .inr oth_non
    | 2, _ => exact .inr oth_bl
    | 3, _ => exact .inr (oth_lst (by rw [upd_ne b1]; exact e1))
    | 4, _ => exact .inr (oth_tup (by rw [upd_ne b2]; exact e2))
    | 5, _ => exact .inl ⟨_, rfl⟩
    | 6, _ => exact .inl ⟨_, rfl⟩
    | 7, _ => exact .inr (oth_lst (by rw [upd_ne b3]; exact e3))
theorem ok_law {f C p g t : Addr} {mc : Value} {fd fdm : FuncData} (F : Fun K "law" "law" s_law f fd) (T : Bn mg) (M : ModeTxt K mg C p g t mc)
    (F_is_mode : FnOk P w K mg base CX0 1 g fdm ["thing"] (spIsMode K)) (b_is_mode : Binds K fdm ["thing"] [])
    (D_law_pool : Df P w K mg base 1 "_law_pool" ["script", "at"] (spPool K)) (D_law_thing : Df P w K mg base 3 "_law_thing" ["pool", "modes"] (spThing K)) : FnOk P w K mg base CX0 4 f fd ["script"] (spLaw K) := by
  refine F.ok sc_law (fun vs H Q E h => ?_) (fun cdv A outer s H vs Q E hr h => ?_)
  · obtain ⟨a, ns, rfl, _⟩ := h
    rfl
  · obtain ⟨a, ns, rfl, hS, hlen, k⟩ := h
    refine ⟨_, (pss_cons (ps_set (i := 1) sc_law.nd rfl (Or.inl rfl) (pe_lst (pa_cons pe_str (pa_cons pe_str (pa_cons pe_str (pa_cons pe_str (pa_cons pe_str (pa_cons pe_str (pa_cons pe_str (pa_cons pe_str pa_nil))))))))))
  (pss_cons (ps_set (i := 2) sc_law.nd rfl (Or.inl rfl) (pe_lst (pa_cons (ClX.pe_cval (pe_glob (v := .ref _) rfl M.mo rfl)) (pa_cons (ClX.pe_cval (pe_glob (v := .ref _) rfl M.mo rfl)) (pa_cons (ClX.pe_cval (pe_glob (v := .ref _) rfl M.mo rfl)) (pa_cons (ClX.pe_cval (pe_glob (v := .ref _) rfl M.mo rfl)) (pa_cons (ClX.pe_cval (pe_glob (v := .ref _) rfl M.mo rfl)) (pa_cons (ClX.pe_cval (pe_glob (v := .ref _) rfl M.mo rfl)) (pa_cons (ClX.pe_cval (pe_glob (v := .ref _) rfl M.mo rfl)) (pa_cons (ClX.pe_cval (pe_glob (v := .ref _) rfl M.mo rfl)) pa_nil))))))))))
  (pss_cons (ps_if (PW.pt (pw_or (pt_cmpR (op_neD hr.units) (pv 2) (pv 1) (nomark _)) (pw_or (pt_not (pt_val (pe_callB call_isi (by rfl) T.isi PyProof.Rows.boot_isinstance (pa_cons (ClX.pe_cval (pe_glob (v := .ref _) rfl M.mo rfl)) (pa_cons (pe_bltn (v := .ty "tuple") (by rfl) T.tuple (by decide +kernel) rfl) pa_nil))))) (pw_or1 (pt_cmpR (op_neD hr.units) (pe_callTy call_list_of (by rfl) T.list (by decide +kernel) (pa_cons (ClX.pe_cval (pe_glob (v := .ref _) rfl M.mo rfl)) pa_nil)) (pv 1) (nomark _))))))
  (pss_one (ps_ret pe_bl))
  pss_nil)
  (pss_cons (ps_for PassesOwn.never rfl (pi_range1 rfl T.range (pa_cons (pe_callB (call_max2 rfl) (by rfl) T.max PyProof.Rows.boot_max (pa_cons pe_int (pa_cons (pe_callB (call_min2 rfl) (by rfl) T.min PyProof.Rows.boot_min (pa_cons pe_int (pa_cons (pe_callB call_len_seq (by rfl) T.len PySem.boot_len (pa_cons (pv 0) pa_nil)) pa_nil))) pa_nil))) pa_nil)) (pg_name (i := 3) sc_law.nd rfl (Or.inl rfl))
  (pss_cons (ps_set (i := 4) sc_law.nd rfl (Or.inl rfl) (pe_df D_law_pool hr (by decide) rfl (pa_cons (pv 0) (pa_cons (pv 3) pa_nil))))
  (pss_one (ps_for PassesOwn.never rfl (pi_range1 rfl T.range (pa_cons pe_int pa_nil)) (pg_name (i := 5) sc_law.nd rfl (Or.inl rfl))
  (pss_cons (ps_set (i := 6) sc_law.nd rfl (Or.inl rfl) (pe_df D_law_thing hr (by decide) rfl (pa_cons (pv 4) (pa_cons (pv 1) pa_nil))))
  (pss_cons (ps_set (i := 7) sc_law.nd rfl (Or.inl rfl) (pe_smeth (pe_glob (v := .ref _) rfl M.mo rfl) M.sm F_is_mode b_is_mode hr (by decide) (pa_cons (pv 6) pa_nil)))
  (pss_cons (ps_if (PW.pt (pw_and (pt_cmpR op_notBl (pv 7) pe_bl (nomark _)) (pw_and1 (pt_cmpR op_notBl (pv 7) pe_bl (nomark _)))))
  (pss_one (ps_ret pe_bl))
  pss_nil)
  (pss_one (ps_if (pt_cmpR op_ne (pv 7) (pe_and (pe_callB call_isi (by rfl) T.isi PyProof.Rows.boot_isinstance (pa_cons (pv 6) (pa_cons (pe_bltn (v := .ty "str") (by rfl) T.str (by decide +kernel) rfl) pa_nil))) (pe_one (pe_cmpR op_in_seq (pv 6) (pv 1) (by rfl)))) (nomark _))
  (pss_one (ps_ret pe_bl))
  pss_nil)))))))))
  (pss_one (ps_ret pe_bl)))))), ?_⟩
    obtain ⟨u1, c1⟩ := M.con "JOIN" "join" (by simp)
    obtain ⟨u2, c2⟩ := M.con "INNER" "inner" (by simp)
    obtain ⟨u3, c3⟩ := M.con "APART" "apart" (by simp)
    obtain ⟨u4, c4⟩ := M.con "MUST" "must" (by simp)
    obtain ⟨u5, c5⟩ := M.con "EITHER" "either" (by simp)
    obtain ⟨u6, c6⟩ := M.con "NEVER" "never" (by simp)
    obtain ⟨u7, c7⟩ := M.con "OUTSIDE" "outside" (by simp)
    obtain ⟨u8, c8⟩ := M.con "ALONE" "alone" (by simp)
    refine ⟨(by show 8 ≤ sizeLine; decide), fun md nmd => ?_⟩
    refine ⟨C, mc, _, _, rfl, M.rd, c1, C, mc, _, _, rfl, M.rd, c2, C, mc, _, _, rfl, M.rd, c3, C, mc, _, _, rfl, M.rd, c4, C, mc, _, _, rfl, M.rd, c5, C, mc, _, _, rfl, M.rd, c6, C, mc, _, _, rfl, M.rd, c7, C, mc, _, _, rfl, M.rd, c8, (by show 8 ≤ sizeLine; decide), fun td ntd => ?_⟩
    have s1 := Same.new (o := .lst modesV) nmd
    have s2 := Same.new (o := .lst modesV) ntd
    have hmd : upd (upd H md (.lst modesV)) td (.lst modesV) md = some (.lst modesV) := s2 _ _ upd_same
    have htd : upd (upd H md (.lst modesV)) td (.lst modesV) td = some (.lst modesV) := upd_same
    have s12 : Same H (upd (upd H md (.lst modesV)) td (.lst modesV)) := s1.trans s2
    have hSm : SeqAt.shaped (.list (modesS.map PyData.str)) = true := by decide +kernel
    have hEq : (!PyData.eqv (.list (modesS.map PyData.str)) (.list (modesS.map PyData.str))) = false := by decide +kernel
    refine ⟨_, rfl, _, rfl, _, _, .lst (SqL.of htd) (dpAll_strs modesS), .lst (SqL.of hmd) (dpAll_strs modesS), hSm, hSm, _, rfl, ?_⟩
    rw [hEq]
    obtain ⟨o, its, n, e1, e2, e3, e4, e5⟩ := M.tup
    refine ⟨C, mc, _, _, rfl, M.rd, M.all, .ref t, .ty "tuple", .type "tuple", .type "tuple", true, rfl, .ty "tuple", .kTuple e1 e2, kit_ty (by decide +kernel), true, rfl, ?_⟩
    refine ⟨C, mc, _, _, rfl, M.rd, M.all, t, modesV, rfl, .inr (M.seq (upd (upd H md (.lst modesV)) td (.lst modesV))), fun l nl => ?_⟩
    refine ⟨_, rfl, _, _, .lst (SqL.of upd_same) (dpAll_strs modesS), .lst (SqL.of (Same.new nl _ _ hmd)) (dpAll_strs modesS), hSm, hSm, _, rfl, ?_⟩
    rw [hEq]
    have s3 : Same H (upd (upd (upd H md (.lst modesV)) td (.lst modesV)) l (.lst modesV)) := s12.trans (Same.new nl)
    have hmd3 : upd (upd (upd H md (.lst modesV)) td (.lst modesV)) l (.lst modesV) md = some (.lst modesV) := Same.new nl _ _ hmd
    have hl : (ns.map V.int).length = ns.length := List.length_map ..
    obtain ⟨N, hN, hN2⟩ : ∃ N : Int, N = (if (if ((ns.map V.int).length : Int) < 12 then ((ns.map V.int).length : Int) else 12) > 1 then (if ((ns.map V.int).length : Int) < 12 then ((ns.map V.int).length : Int) else 12) else 1) ∧ 0 ≤ N ∧ N ≤ 12 := by
      refine ⟨_, rfl, ?_, ?_⟩ <;> (repeat' split) <;> omega
    refine ⟨_, rfl, a, _, rfl, .inl (s3.seq hS), _, _, rfl, _, _, rfl, N, (by rw [hN]), by omega, by omega, for_range (lo := 0) (n := N.toNat) (fun i σ H1 => ∃ v2 v3 v4 v5 v6 v7, σ = [some (.ref a), some (.ref md), v2, v3, v4, v5, v6, v7] ∧ Same H H1 ∧ H1 md = some (.lst modesV)) ⟨_, _, _, _, _, _, rfl, s3, hmd3⟩ ?_ ?_⟩
    · rintro i σ H1 hi ⟨v2, v3, v4, v5, v6, v7, rfl, s1, hm1⟩
      refine ⟨_, rfl, _, rfl, a, ns, i, (by rw [Int.zero_add]; rfl), s1.seq hS, by omega, fun p o hp hp1 => ?_⟩
      have h0 : H p = none := s1.free hp
      have pmd : md ≠ p := ne_of_none hm1 hp
      refine ⟨12, rfl, by decide, by decide, for_range (lo := 0) (n := 12) (fun j σ H2 => ∃ v5 v6 v7, σ = [some (.ref a), some (.ref md), v2, some (.int (0 + (i : Int))), some (.ref p), v5, v6, v7] ∧ Same H H2 ∧ H2 md = some (.lst modesV) ∧ PoolAt H2 p (20 * j))
        ⟨_, _, _, rfl, s1.trans (Same.new hp), (by rw [upd_ne pmd]; exact hm1), hp1.up (by omega)⟩ ?_ ?_⟩
      · rintro j σ H2 hj ⟨v5, v6, v7, rfl, s2, hm2, hp2⟩
        refine ⟨_, rfl, _, rfl, p, md, 20 * j, rfl, hp2, by omega, hm2, fun v H3 hp3 kp3 ht => ?_⟩
        have s3 := IC.Same.kp s2 kp3 h0
        have hm3 : H3 md = some (.lst modesV) := kp3 _ _ hm2 (by simpa using pmd)
        rcases ht with ⟨z, rfl⟩ | ho
        · refine ⟨rfl, _, rfl, _, rfl, .inl ⟨z, rfl, ?_⟩⟩
          cases hb : inV (.str z) modesV with
          | true =>
            refine ⟨_, rfl, true, true, rfl, rfl, _, rfl, ?_⟩
            refine ⟨_, rfl, _, rfl, .str z, .ty "str", .type "str", .type "str", true, rfl, .ty "str", .base (.str z), kit_ty (by decide +kernel), true, rfl, ?_⟩
            refine ⟨_, rfl, _, rfl, md, modesV, rfl, .inl (SqL.of hm3), rfl, modes_flat, rfl, _, rfl, ?_⟩
            rw [hb]
            exact ⟨_, _, _, rfl, s3, hm3, hp3.up (by omega)⟩
          | false =>
            refine ⟨_, rfl, false, true, rfl, rfl, _, rfl, ?_⟩
            refine ⟨_, rfl, false, false, rfl, rfl, _, rfl, ?_⟩
            refine ⟨_, rfl, _, rfl, .str z, .ty "str", .type "str", .type "str", true, rfl, .ty "str", .base (.str z), kit_ty (by decide +kernel), true, rfl, ?_⟩
            refine ⟨_, rfl, _, rfl, md, modesV, rfl, .inl (SqL.of hm3), rfl, modes_flat, rfl, _, rfl, ?_⟩
            rw [hb]
            exact ⟨_, _, _, rfl, s3, hm3, hp3.up (by omega)⟩
        · refine ⟨rfl, _, rfl, _, rfl, .inr ⟨ho, ?_⟩⟩
          refine ⟨_, rfl, false, true, rfl, rfl, _, rfl, ?_⟩
          refine ⟨_, rfl, false, false, rfl, rfl, _, rfl, ?_⟩
          obtain ⟨T', ty, kb⟩ := ho
          refine ⟨_, rfl, _, rfl, v, .ty "str", .type T', .type "str", false, rfl, .ty "str", ty, kit_ty kb, false, rfl, ?_⟩
          exact ⟨rfl, _, rfl, _, _, _, rfl, s3, hm3, hp3.up (by omega)⟩
      · rintro σ H2 ⟨v5, v6, v7, rfl, s2, hm2, _⟩
        exact ⟨_, _, _, _, _, _, rfl, s2, hm2⟩
    · rintro σ H1 ⟨v2, v3, v4, v5, v6, v7, rfl, s1, hm1⟩
      exact k H1
end
end IC
namespace IC
open PySem L2 TL
theorem all_mk {l : PySem.W.OpenLaw} {w : World} {K : PySem.W.Frag} {h : Heap} {mg : Str → Option Value} {fa f0 f1 f2 f3 f4 f5 : Addr} (X : K.In h) (G : h.Ns mainGlobals mg) (hfa : mg "law" = some (.ref fa))
    {od0 an0 od1 an1 od2 an2 od3 an3 od4 an4 od5 an5 : Option Addr} {sl0 sl1 sl2 sl3 sl4 sl5 : Array (Option Value)} {oc0 kV0 dc0 pm0 cd0 ct0 oc1 kV1 dc1 pm1 cd1 ct1 oc2 kV2 dc2 pm2 cd2 ct2 oc3 kV3 dc3 pm3 cd3 ct3 oc4 kV4 dc4 pm4 cd4 ct4 oc5 kV5 dc5 pm5 cd5 ct5 : Value} {CM pM tM : Addr} {rsM : List Value} {ddM : Option Addr} {nM : Nat} {slM : Array (Option Value)} {y0 y1 y2 y3 y4 y5 y6 y7 w0 w1 w2 w3 w4 w5 w6 w7 : Tok}
    (a0 : PySem.W.nsIn K mainGlobals "_law_pool" = some (some (.ref f0))) (l0 : K.lookup f0 = some ⟨oc0, od0, .func (PySem.W.fnOf "_law_pool" "_law_pool" (defArgs s_law_pool) (defBody s_law_pool) (defScope s_law_pool) .none kV0 dc0 pm0 an0 cd0 ct0), sl0⟩) (c0 : PySem.W.codeIn K cd0 "_law_pool" = true) (k0 : PySem.W.keepIn K (.ref f0) = true)
    (a1 : PySem.W.nsIn K mainGlobals "_law_draw" = some (some (.ref f1))) (l1 : K.lookup f1 = some ⟨oc1, od1, .func (PySem.W.fnOf "_law_draw" "_law_draw" (defArgs s_law_draw) (defBody s_law_draw) (defScope s_law_draw) .none kV1 dc1 pm1 an1 cd1 ct1), sl1⟩) (c1 : PySem.W.codeIn K cd1 "_law_draw" = true) (k1 : PySem.W.keepIn K (.ref f1) = true)
    (a2 : PySem.W.nsIn K mainGlobals "_law_word" = some (some (.ref f2))) (l2 : K.lookup f2 = some ⟨oc2, od2, .func (PySem.W.fnOf "_law_word" "_law_word" (defArgs s_law_word) (defBody s_law_word) (defScope s_law_word) .none kV2 dc2 pm2 an2 cd2 ct2), sl2⟩) (c2 : PySem.W.codeIn K cd2 "_law_word" = true) (k2 : PySem.W.keepIn K (.ref f2) = true)
    (a3 : PySem.W.recIn K pM "staticmethod" = some (.ref f3 :: rsM)) (l3 : K.lookup f3 = some ⟨oc3, od3, .func (PySem.W.fnOf "is_mode" "Mode.is_mode" (defArgs s_Mode_is_mode) (defBody s_Mode_is_mode) (defScope s_Mode_is_mode) .none kV3 dc3 pm3 an3 cd3 ct3), sl3⟩) (c3 : PySem.W.codeIn K cd3 "Mode.is_mode" = true) (k3 : PySem.W.keepIn K (.ref f3) = true)
    (a4 : PySem.W.nsIn K mainGlobals "_law_thing" = some (some (.ref f4))) (l4 : K.lookup f4 = some ⟨oc4, od4, .func (PySem.W.fnOf "_law_thing" "_law_thing" (defArgs s_law_thing) (defBody s_law_thing) (defScope s_law_thing) .none kV4 dc4 pm4 an4 cd4 ct4), sl4⟩) (c4 : PySem.W.codeIn K cd4 "_law_thing" = true) (k4 : PySem.W.keepIn K (.ref f4) = true)
    (a5 : PySem.W.nsIn K mainGlobals "law" = some (some (.ref f5))) (l5 : K.lookup f5 = some ⟨oc5, od5, .func (PySem.W.fnOf "law" "law" (defArgs s_law) (defBody s_law) (defScope s_law) .none kV5 dc5 pm5 an5 cd5 ct5), sl5⟩) (c5 : PySem.W.codeIn K cd5 "law" = true) (k5 : PySem.W.keepIn K (.ref f5) = true)
    (z_int : PySem.W.nsIn K mainGlobals "int" = some none)
    (z_len : PySem.W.nsIn K mainGlobals "len" = some none)
    (z_abs : PySem.W.nsIn K mainGlobals "abs" = some none)
    (z_range : PySem.W.nsIn K mainGlobals "range" = some none)
    (z_max : PySem.W.nsIn K mainGlobals "max" = some none)
    (z_min : PySem.W.nsIn K mainGlobals "min" = some none)
    (z_isi : PySem.W.nsIn K mainGlobals "isinstance" = some none)
    (z_str : PySem.W.nsIn K mainGlobals "str" = some none)
    (z_tuple : PySem.W.nsIn K mainGlobals "tuple" = some none)
    (z_list : PySem.W.nsIn K mainGlobals "list" = some none)
    (mo : PySem.W.nsIn K mainGlobals "Mode" = some (some (.ref CM)))
    (mrd : PySem.W.readsIn K CM (.type "type") = true)
    (mga : PySem.W.specialIn K (.ref CM) "__getattribute__" = some (some (.builtin "type.__getattribute__")))
    (mall : PySem.W.findCls K (.ref CM) (.type "type") "ALL" = some (.val (.ref tM)))
    (mlt : K.lookup tM = some ⟨.type "tuple", ddM, .seq #[.str "join" y0, .str "inner" y1, .str "apart" y2, .str "must" y3, .str "either" y4, .str "never" y5, .str "outside" y6, .str "alone" y7] nM, slM⟩)
    (m0 : PySem.W.findCls K (.ref CM) (.type "type") "JOIN" = some (.val (.str "join" w0)))
    (m1 : PySem.W.findCls K (.ref CM) (.type "type") "INNER" = some (.val (.str "inner" w1)))
    (m2 : PySem.W.findCls K (.ref CM) (.type "type") "APART" = some (.val (.str "apart" w2)))
    (m3 : PySem.W.findCls K (.ref CM) (.type "type") "MUST" = some (.val (.str "must" w3)))
    (m4 : PySem.W.findCls K (.ref CM) (.type "type") "EITHER" = some (.val (.str "either" w4)))
    (m5 : PySem.W.findCls K (.ref CM) (.type "type") "NEVER" = some (.val (.str "never" w5)))
    (m6 : PySem.W.findCls K (.ref CM) (.type "type") "OUTSIDE" = some (.val (.str "outside" w6)))
    (m7 : PySem.W.findCls K (.ref CM) (.type "type") "ALONE" = some (.val (.str "alone" w7)))
    (msm : PySem.W.findCls K (.ref CM) (.type "type") "is_mode" = some (.get (.builtin "staticmethod.__get__") (.ref pM) .none (.ref CM)))
    : ∃ fd : FuncData, (∀ (s : Shared) (v : Value), BindsTo s fd ⟨[v], []⟩ [("script", v)]) ∧ ∀ base : Heap, K.In base → base.Ns mainGlobals mg → FnOk l.prog w K mg base CX0 4 fa fd ["script"] (spLaw K) := by
  have e := hfa.symm.trans (PySem.W.mg_of X G a5)
  cases e
  have T : Bn mg := ⟨PySem.W.mg_none_of X G z_int, PySem.W.mg_none_of X G z_len, PySem.W.mg_none_of X G z_abs, PySem.W.mg_none_of X G z_range, PySem.W.mg_none_of X G z_max, PySem.W.mg_none_of X G z_min, PySem.W.mg_none_of X G z_isi, PySem.W.mg_none_of X G z_str, PySem.W.mg_none_of X G z_tuple, PySem.W.mg_none_of X G z_list⟩
  have F0 := fun_mk (st := s_law_pool) l0 c0 k0
  have b0 := F0.binds (ps := ["script", "at"]) fun _ _ _ _ _ _ us hl => match us, hl with | [_, _], _ => rfl
  have F1 := fun_mk (st := s_law_draw) l1 c1 k1
  have b1 := F1.binds (ps := ["pool", "many"]) fun _ _ _ _ _ _ us hl => match us, hl with | [_, _], _ => rfl
  have F2 := fun_mk (st := s_law_word) l2 c2 k2
  have b2 := F2.binds (ps := ["pool"]) fun _ _ _ _ _ _ us hl => match us, hl with | [_], _ => rfl
  have F3 := fun_mk (st := s_Mode_is_mode) l3 c3 k3
  have b3 := F3.binds (ps := ["thing"]) fun _ _ _ _ _ _ us hl => match us, hl with | [_], _ => rfl
  have F4 := fun_mk (st := s_law_thing) l4 c4 k4
  have b4 := F4.binds (ps := ["pool", "modes"]) fun _ _ _ _ _ _ us hl => match us, hl with | [_, _], _ => rfl
  have F5 := fun_mk (st := s_law) l5 c5 k5
  refine ⟨PySem.W.fnOf "law" "law" (defArgs s_law) (defBody s_law) (defScope s_law) .none kV5 dc5 pm5 an5 cd5 ct5, fun s v => .of_eq rfl, fun base hbK hbG => ?_⟩
  have conM : ∀ nm z : Str, (nm, z) ∈ ([("JOIN", "join"), ("INNER", "inner"), ("APART", "apart"), ("MUST", "must"), ("EITHER", "either"), ("NEVER", "never"), ("OUTSIDE", "outside"), ("ALONE", "alone")] : List (Str × Str)) → ∃ u, ClX.CVal K CM (.type "type") nm (.str z) u := by
    intro nm z hz
    simp only [List.mem_cons, List.not_mem_nil, or_false, Prod.mk.injEq] at hz
    rcases hz with ⟨rfl, rfl⟩ | ⟨rfl, rfl⟩ | ⟨rfl, rfl⟩ | ⟨rfl, rfl⟩ | ⟨rfl, rfl⟩ | ⟨rfl, rfl⟩ | ⟨rfl, rfl⟩ | ⟨rfl, rfl⟩
    · exact ⟨_, m0, ⟨_, rfl⟩⟩
    · exact ⟨_, m1, ⟨_, rfl⟩⟩
    · exact ⟨_, m2, ⟨_, rfl⟩⟩
    · exact ⟨_, m3, ⟨_, rfl⟩⟩
    · exact ⟨_, m4, ⟨_, rfl⟩⟩
    · exact ⟨_, m5, ⟨_, rfl⟩⟩
    · exact ⟨_, m6, ⟨_, rfl⟩⟩
    · exact ⟨_, m7, ⟨_, rfl⟩⟩
  have M : ModeTxt K mg CM pM f3 tM (.type "type") := { mo := PySem.W.mg_of X G mo, rd := ⟨mrd, mga⟩, all := ⟨mall, rfl⟩, tup := ⟨_, _, _, mlt, rfl, rfl, (by show 8 ≤ sizeLine; decide), .cons ⟨_, rfl⟩ (.cons ⟨_, rfl⟩ (.cons ⟨_, rfl⟩ (.cons ⟨_, rfl⟩ (.cons ⟨_, rfl⟩ (.cons ⟨_, rfl⟩ (.cons ⟨_, rfl⟩ (.cons ⟨_, rfl⟩ .nil)))))))⟩, con := conM, sm := ⟨⟨mrd, mga⟩, msm, ⟨_, a3⟩, k3⟩ }
  have bIM := b3
  have D_law_pool : Df l.prog w K mg base 1 "_law_pool" ["script", "at"] (spPool K) := ⟨f0, _, ok_pool F0 T, PySem.W.mg_of X G a0, k0, b0⟩
  have D_law_draw : Df l.prog w K mg base 1 "_law_draw" ["pool", "many"] spDraw := ⟨f1, _, ok_draw F1 T, PySem.W.mg_of X G a1, k1, b1⟩
  have D_law_word : Df l.prog w K mg base 2 "_law_word" ["pool"] spWord := ⟨f2, _, ok_word F2 T D_law_draw, PySem.W.mg_of X G a2, k2, b2⟩
  have F_is_mode : FnOk l.prog w K mg base CX0 1 f3 _ ["thing"] (spIsMode K) := ok_is_mode F3 T M
  have D_law_thing : Df l.prog w K mg base 3 "_law_thing" ["pool", "modes"] (spThing K) := ⟨f4, _, ok_thing F4 T D_law_draw D_law_word, PySem.W.mg_of X G a4, k4, b4⟩
  exact ok_law F5 T M F_is_mode bIM D_law_pool D_law_thing
theorem walk {l : PySem.W.OpenLaw} {q : Program} {loose : List Str} {XP : (Str → Option Value) → Heap → Prop} {YP : World → Heap → Prop} {d : DefRec} {K : Params → PySem.W.Frag} (hn : l.most = some 63) (hdf : d.params.defaults = [])
    (hY : ∀ (w : World) (h : Heap), YP w h → (K w.params).In h)
    (F : ∀ (w : World) (mg : Str → Option Value) (fa : Addr) (h : Heap), (K w.params).In h → h.Ns mainGlobals mg → mg d.name = some (.ref fa) →
      ∃ fd : FuncData, (∀ (s : Shared) (u : Value), BindsTo s fd ⟨[u], []⟩ [("script", u)]) ∧ ∀ base : Heap, (K w.params).In base → base.Ns mainGlobals mg → FnOk l.prog w (K w.params) mg base CX0 4 fa fd ["script"] (spLaw (K w.params))) :
    PySem.W.WalkO q loose XP YP l.row.toRowW d [] (fun f vs => PySem.call f vs) :=
  L2.walk_of (n := 63) (k := 4) (x := "script") (CX := fun _ => CX0) (sp := fun w => spLaw (K w.params)) hn (by decide) hdf ⟨rfl, by decide, by decide⟩ hY F (fun _ _ a ns hl _ hS => ⟨a, ns, rfl, hS, hl, fun _ => rfl⟩) fun _ _ _ _ _ z => z
end IC
open PySem PySem.W PyProof.Rows
set_option maxRecDepth 100000 in
set_option maxHeartbeats 0 in
theorem PySem.Challenge.cw_innercommits_k02_modes_holds : PySem.Challenge.rw_innercommits_k02_modes.Holds := by
  w_on; o_law; k_head; (case hw => w_witness2)
  k_fill
  refine IC.walk (l := PySem.Challenge.rw_innercommits_k02_modes) rfl rfl (fun w h Y => PySem.W.kIn_of Y) ?F
  case F =>
    intro w mg fa h KX G hmg
    refine' IC.all_mk KX G hmg ?a0 ?l0 ?c0 ?k0 ?a1 ?l1 ?c1 ?k1 ?a2 ?l2 ?c2 ?k2 ?a3 ?l3 ?c3 ?k3 ?a4 ?l4 ?c4 ?k4 ?a5 ?l5 ?c5 ?k5 ?z_int ?z_len ?z_abs ?z_range ?z_max ?z_min ?z_isi ?z_str ?z_tuple ?z_list ?mo ?mrd ?mga ?mall ?mlt ?m0 ?m1 ?m2 ?m3 ?m4 ?m5 ?m6 ?m7 ?msm
    (case mo => k_is)
    (case mrd => k_is)
    (case mga => k_is)
    (case mall => k_is)
    (case mlt => k_is)
    (case m0 => k_is)
    (case m1 => k_is)
    (case m2 => k_is)
    (case m3 => k_is)
    (case m4 => k_is)
    (case m5 => k_is)
    (case m6 => k_is)
    (case m7 => k_is)
    (case msm => k_is)
    (case a0 => k_is)
    (case l0 => k_is)
    (case c0 => k_is)
    (case k0 => k_is)
    (case a1 => k_is)
    (case l1 => k_is)
    (case c1 => k_is)
    (case k1 => k_is)
    (case a2 => k_is)
    (case l2 => k_is)
    (case c2 => k_is)
    (case k2 => k_is)
    (case a3 => k_is)
    (case l3 => k_is)
    (case c3 => k_is)
    (case k3 => k_is)
    (case a4 => k_is)
    (case l4 => k_is)
    (case c4 => k_is)
    (case k4 => k_is)
    (case a5 => k_is)
    (case l5 => k_is)
    (case c5 => k_is)
    (case k5 => k_is)
    (case z_int => k_is)
    (case z_len => k_is)
    (case z_abs => k_is)
    (case z_range => k_is)
    (case z_max => k_is)
    (case z_min => k_is)
    (case z_isi => k_is)
    (case z_str => k_is)
    (case z_tuple => k_is)
    (case z_list => k_is)
#print axioms PySem.Challenge.cw_innercommits_k02_modes_holds
