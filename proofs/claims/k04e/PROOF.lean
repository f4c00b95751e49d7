import PyProof.Rows.All
import Wide.All
import OpenK.AllK
import Wide.FinOn
import HandS.ForMost
import HandS.Wide
import HandS.IsInst
import HandS.Style
import HandS.Flow
import HandS.Evl
import HandS.Walk
import HandS.Codes
import PyProof.Rows.ReprR
import HandS.Exc
import HandS.TryMany
import HandS.ExcInit
import HandS.ExcField
import HandS.Property
import HandS.Defaults
import HandS.ClsMeth
import PyProof.ListStr
import HandS.CallSlots
import HandS.WordsExc
import PyProof.ReprBulk
import PySem.Challenge.RW_innercommits_k04_entering_blocks
set_option Elab.async false
set_option linter.all false
set_option maxRecDepth 100000
set_option maxHeartbeats 4000000
namespace IC
open PySem L2 TL
/-! ### heaps: all but the addresses of l stand as they stood -/
def Kp (l : List Addr) (H H' : Hp) : Prop := ∀ b o, H b = some o → b ∉ l → H' b = some o
theorem Kp.refl (l : List Addr) (H : Hp) : Kp l H H := fun _ _ e _ => e
theorem Kp.trans {l : List Addr} {H H1 H2 : Hp} (a : Kp l H H1) (b : Kp l H1 H2) : Kp l H H2 := fun c o e h => b c o (a c o e h) h
theorem Kp.same {l : List Addr} {H H' : Hp} (a : Same H H') : Kp l H H' := fun b o e _ => a b o e
theorem Kp.at_ {l : List Addr} {H : Hp} {p : Addr} {o : HO} (h : p ∈ l) : Kp l H (upd H p o) := fun b u e hb => by
  have q : b ≠ p := fun z => hb (by rw [z]; exact h)
  rw [upd_ne q]; exact e
theorem Kp.new {l : List Addr} {H : Hp} {p : Addr} {o : HO} (h : H p = none) : Kp l H (upd H p o) := fun b u e _ => by
  rw [upd_ne (ne_of_none e h)]; exact e
theorem Kp.mut {l : List Addr} {H H' : Hp} {p : Addr} {o : HO} (a : Kp l H H') (h : H p = none) : Kp l H (upd H' p o) := fun b u e hb => by
  rw [upd_ne (ne_of_none e h)]; exact a b u e hb
theorem Kp.mutAt {l : List Addr} {H H' : Hp} {p : Addr} {o : HO} (a : Kp l H H') (h : p ∈ l) : Kp l H (upd H' p o) := a.trans (Kp.at_ h)
theorem none_of {H : Hp} {p D : Addr} {o : HO} (h : upd H p o D = none) : p ≠ D ∧ H D = none := by
  have q : p ≠ D := ne_of_none upd_same h
  rw [upd_ne q.symm] at h
  exact ⟨q, h⟩
theorem Same.new {H : Hp} {p : Addr} {o : HO} (h : H p = none) : Same H (upd H p o) := fun b u e => by
  rw [upd_ne (ne_of_none e h)]; exact e

/-! ### the pool of numbers -/
def pl (a b c : Int) : List V := [.int a, .int b, .int c]
def PoolAt (H : Hp) (p : Addr) (n : Int) : Prop := ∃ a b c : Int, H p = some (.lst (pl a b c)) ∧ 0 ≤ a ∧ 0 ≤ b ∧ b < 2 ^ 62 ∧ 0 ≤ c ∧ c ≤ n
theorem PoolAt.up {H : Hp} {p : Addr} {n m : Int} (h : PoolAt H p n) (e : n ≤ m) : PoolAt H p m := by
  obtain ⟨a, b, c, h1, h2, h3, h4, h5, h6⟩ := h
  exact ⟨a, b, c, h1, h2, h3, h4, h5, Int.le_trans h6 e⟩
theorem PoolAt.mv {H H' : Hp} {p : Addr} {n : Int} (h : PoolAt H p n) (e : ∀ o, H p = some o → H' p = some o) : PoolAt H' p n := by
  obtain ⟨a, b, c, h1, h⟩ := h
  exact ⟨a, b, c, e _ h1, h⟩
/-- _law_draw(pool, many): a number below many; only the pool changes -/
def spDraw : Sp := fun vs H Q _ => ∃ (p : Addr) (m n : Int), vs = [.ref p, .int m] ∧ PoolAt H p n ∧ n < 1000000000 ∧ 0 < m ∧ m.natAbs < 2 ^ 200 ∧
  ∀ (d : Int) (o : HO), 0 ≤ d → d < m → PoolAt (upd H p o) p (n + 1) → Q (.int d) (upd H p o)
/-- _law_pool(script, at): a new pool -/
def spPool (K : PySem.W.Frag) : Sp := fun vs H Q _ => ∃ (a : Addr) (ns : List Int) (j : Nat), vs = [.ref a, .int j] ∧ SqL K H a (ns.map V.int) ∧ j < 64 ∧
  ∀ (p : Addr) (o : HO), H p = none → PoolAt (upd H p o) p 0 → Q (.ref p) (upd H p o)

/-- a def of the text by its name: it keeps the promise sp -/
structure Df (P : Program) (w : World) (K : PySem.W.Frag) (mg : Str → Option Value) (base : Heap) (k : Nat) (x : Str) (ps : List Str) (sp : Sp) : Prop where
  ex : ∃ (f : Addr) (fd : FuncData), FnOk P w K mg base CX0 k f fd ps sp ∧ mg x = some (.ref f) ∧ PySem.W.keepIn K (.ref f) = true ∧ Binds K fd ps []
theorem pe_df {X : Cx} {k j : Nat} {x : Str} {ps : List Str} {sp : Sp} {e : Expr} {es : List Expr} {t : TA} {p pos : Pos} (D : Df X.prog X.w X.K X.mg X.base k x ps sp) (hr : Room j X.A) (hk : k ≤ j) (hg : Gl X x)
    (ha : PA X (e :: es) t) (hdb : (x == ("__debug__" : Str)) = false := by decide) (he : starEach (e :: es) X.env = (false, eval e X.env) :: starEach es X.env := by rfl) (hpl : (backTo pos (starEach es X.env)).any (·.1) = false := by rfl) :
    PE X (.Call (.Name x p) (e :: es) [] pos) (tCall sp [] E0 t) := by
  obtain ⟨f, fd, F, hm, hkp, hb⟩ := D.ex
  exact pe_call F (hr.mono hk) hg hm hkp hb .nil pass0 ha hdb he hpl

/-! ### words -/
def Lt (c : Nat) : Prop := 97 ≤ c ∧ c ≤ 122
def IsW (z : Str) : Prop := 1 ≤ (tl z).length ∧ (tl z).length ≤ 8 ∧ ∀ c ∈ tl z, Lt c
def sgn (c : Nat) : Str := ⟨#[c]⟩
theorem joinL_one : ∀ cs : List Nat, joinL [] (cs.map fun c => [c]) = cs
  | [] => rfl
  | [c] => rfl
  | c :: d :: r => by
    show [c] ++ ([] ++ joinL [] ((d :: r).map fun c => [c])) = c :: d :: r
    rw [joinL_one (d :: r)]
    rfl
theorem tl_joined (cs : List Nat) : tl (Txt.join (Str.ofString "") (cs.map sgn)) = cs := by
  rw [join_eq, tl_join, List.map_map]
  exact joinL_one cs
def spWord : Sp := fun vs H Q _ => ∃ (p : Addr) (n : Int), vs = [.ref p] ∧ PoolAt H p n ∧ n < 900000000 ∧
  ∀ (z : Str) (H' : Hp), IsW z → PoolAt H' p (n + 9) → Kp [p] H H' → Q (.str z) H'
theorem abc_at (d : Int) (h0 : 0 ≤ d) (h1 : d < 26) : ∃ c, atI (Str.ofString "abcdefghijklmnopqrstuvwxyz").cps.toList d = some c ∧ Lt c := by
  have e : (Str.ofString "abcdefghijklmnopqrstuvwxyz").cps.toList = [97,98,99,100,101,102,103,104,105,106,107,108,109,110,111,112,113,114,115,116,117,118,119,120,121,122] := by decide +kernel
  rw [e]
  obtain ⟨j, rfl⟩ : ∃ j : Nat, d = j := ⟨d.toNat, by omega⟩
  have hj : j < 26 := by omega
  refine ⟨97 + j, atI_nat ?_, by unfold Lt; omega⟩
  have all : ∀ k : Fin 26, ([97,98,99,100,101,102,103,104,105,106,107,108,109,110,111,112,113,114,115,116,117,118,119,120,121,122] : List Nat)[k.val]? = some (97 + k.val) := by decide
  exact all ⟨j, hj⟩
/-- no text: a value of another type -/
def Oth (K : PySem.W.Frag) (H : Hp) (v : V) : Prop := ∃ T : String, TyX K H v (.type T) ∧ kitB T "str" = some false
def lB (c : Nat) : Bool := decide (97 ≤ c) && decide (c ≤ 122)
/-- is the text a word -/
def wB (z : Str) : Bool := decide (1 ≤ (tl z).length) && (decide ((tl z).length ≤ 8) && (tl z).all lB)
def spIsWord (K : PySem.W.Frag) : Sp := fun vs H Q _ => ∃ v : V, vs = [v] ∧ ((∃ z : Str, v = .str z ∧ (tl z).length ≤ 1000 ∧ ∀ H', Same H H' → Q (.bl (wB z)) H') ∨ (Oth K H v ∧ ∀ H', Same H H' → Q (.bl false) H'))
theorem len_le {z : Str} (h : (tl z).length ≤ 1000) : z.length ≤ sizeLine := by
  rw [len_tl]; exact Nat.le_of_lt (small1000 h)
theorem tl_one (c : Nat) : tl (⟨#[c]⟩ : Str) = [c] := rfl
theorem one_lt (c d : Nat) : ([c] < [d]) ↔ ¬ d ≤ c := by
  rw [List.cons_lt_cons_iff]
  simp
theorem lt_a (c : Nat) : decide ((⟨#[c]⟩ : Str).cps.toList < (Str.ofString "a").cps.toList) = !decide (97 ≤ c) := by
  have e : (Str.ofString "a").cps.toList = [97] := by decide +kernel
  rw [e]
  show decide ([c] < [97]) = _
  rw [Bool.eq_iff_iff, decide_eq_true_iff, Bool.not_eq_true', decide_eq_false_iff_not]
  exact one_lt c 97
theorem z_lt (c : Nat) : decide ((Str.ofString "z").cps.toList < (⟨#[c]⟩ : Str).cps.toList) = !decide (c ≤ 122) := by
  have e : (Str.ofString "z").cps.toList = [122] := by decide +kernel
  rw [e]
  show decide ([122] < [c]) = _
  rw [Bool.eq_iff_iff, decide_eq_true_iff, Bool.not_eq_true', decide_eq_false_iff_not]
  exact one_lt 122 c
theorem abc_mem (c : Nat) : decide (c ∈ (Str.ofString "abcdefghijklmnopqrstuvwxyz").cps.toList) = lB c := by
  have e : (Str.ofString "abcdefghijklmnopqrstuvwxyz").cps.toList = [97,98,99,100,101,102,103,104,105,106,107,108,109,110,111,112,113,114,115,116,117,118,119,120,121,122] := by decide +kernel
  rw [e]
  unfold lB
  rw [Bool.eq_iff_iff]
  simp
  omega
theorem shaped_all {xs : List PyData} (h : ∀ x ∈ xs, PyData.canLay0 x = true ∧ PyData.depth x ≤ 20) : PyData.canLayAll0 xs = true ∧ PyData.depthAll xs ≤ 20 := by
  induction xs with
  | nil => exact ⟨rfl, Nat.zero_le _⟩
  | cons x r ih =>
    have h1 := h x List.mem_cons_self
    have h2 := ih fun y hy => h y (List.mem_cons_of_mem _ hy)
    refine ⟨?_, ?_⟩
    · show (PyData.canLay0 x && PyData.canLayAll0 r) = true
      rw [h1.1, h2.1]
      rfl
    · show max (PyData.depth x) (PyData.depthAll r) ≤ 20
      omega
theorem shaped_list {xs : List PyData} (h : ∀ x ∈ xs, PyData.canLay0 x = true ∧ PyData.depth x ≤ 20) : SeqAt.shaped (.list xs) = true := by
  obtain ⟨h1, h2⟩ := shaped_all h
  show (PyData.canLay0 (.list xs) && decide (PyData.depth (.list xs) ≤ 64)) = true
  have e1 : PyData.canLay0 (.list xs) = true := h1
  have e2 : PyData.depth (.list xs) = PyData.depthAll xs + 1 := rfl
  rw [e1, e2, decide_eq_true (by omega)]
  rfl
theorem dpAll_strs {K : PySem.W.Frag} {H : Hp} : ∀ zs : List Str, DpAll K H (zs.map V.str) (zs.map PyData.str)
  | [] => .nil
  | z :: r => .cons (.str z) (dpAll_strs r)
def Okc (c : Nat) : Prop := c < 1114112
theorem strOk_of {z : Str} (h : ∀ c ∈ tl z, Okc c) : PyData.strOk z = true := by
  unfold PyData.strOk
  rw [Array.all_eq_true_iff_forall_mem]
  intro c hc
  exact decide_eq_true (h c (by simpa [tl] using hc))
theorem shaped_strs (zs : List Str) (h : ∀ z ∈ zs, ∀ c ∈ tl z, Okc c) : SeqAt.shaped (.list (zs.map PyData.str)) = true := shaped_list fun x hx => by
  obtain ⟨z, hz, rfl⟩ := List.mem_map.mp hx
  exact ⟨strOk_of (h z hz), Nat.zero_le _⟩
/-- a comprehension over range(n) whose element is a drawn letter -/
theorem lc_draw {te : TE} {gi : Nat} {σ : L2.St} {H1 : Hp} {D p : Addr} {Qd : Hp → Prop} (n : Nat) (m : Int) (hn : n ≤ 1000) (hp : PoolAt H1 p m) (hD : H1 D = none)
    (hte : ∀ (x : V) (m' : Int) (H : Hp) (Q : VK), PoolAt H p m' → m' ≤ m + n → (∀ c o, Lt c → PoolAt (upd H p o) p (m' + 1) → Q (.str (sgn c)) (upd H p o)) → te ((σ.set gi none).set gi (some x)) H Q)
    (hd : ∀ (cs : List Nat) (H' : Hp), cs.length = n → (∀ c ∈ cs, Lt c) → H' D = some (.lst ((cs.map sgn).map V.str)) → PoolAt H' p (m + n) → Kp [p] H1 H' → Qd H') :
    ∃ W : Nat → Nat → Hp → Prop, (∃ m, W 0 m (upd H1 D (.lst []))) ∧ ∀ i m H, W i m H →
      ((Itr 0 n).stop i H ∧ Qd H) ∨ ((Itr 0 n).go i H ∧ ∃ Nx : Hp → Prop, (∀ H', Nx H' → ∃ m', m' < m ∧ W (i + 1) m' H') ∧ ∀ x H', (Itr 0 n).yld i H x H' → gName gi x (wipe σ [gi]) H' fun σ2 H2 => wipe σ2 [gi] = wipe σ [gi] ∧ tYes σ2 H2 fun b H3 =>
        if b = true then te σ2 H3 fun y H4 => ∃ acc, H4 D = some (.lst acc) ∧ acc.length < sizeLine ∧ Nx (upd H4 D (.lst (acc ++ [y]))) else Nx H3) := by
  have hpD : p ≠ D := by
    obtain ⟨a, b, c, e, _⟩ := hp
    exact ne_of_none e hD
  refine lc_range (lo := 0) (n := n) (fun i H' => ∃ cs : List Nat, cs.length = i ∧ (∀ c ∈ cs, Lt c) ∧ H' D = some (.lst ((cs.map sgn).map V.str)) ∧ PoolAt H' p (m + i) ∧ Kp [p] H1 H')
    ⟨[], rfl, by simp, upd_same, (hp.mv fun u e => by rw [upd_ne hpD]; exact e).up (by omega), Kp.new hD⟩ ?_ ?_
  · rintro i H' hi ⟨cs, hl, hc, hcD, hp2, kp⟩
    refine ⟨by simp [wipe], ?_⟩
    refine hte _ (m + i) H' _ hp2 (by omega) fun c o hL hp3 => ?_
    refine ⟨_, (by rw [upd_ne hpD.symm]; exact hcD), small1000 (by rw [List.length_map, List.length_map]; omega), cs ++ [c], by simp [hl], ?_, ?_, ?_, (kp.mutAt (by simp)).mut hD⟩
    · intro x hx
      rcases List.mem_append.mp hx with hx | hx
      · exact hc x hx
      · rw [List.mem_singleton.mp hx]; exact hL
    · rw [upd_same, List.map_append, List.map_append]
      rfl
    · exact (hp3.mv fun u q => by rw [upd_ne hpD]; exact q).up (by omega)
  · rintro H' ⟨cs, hl, hc, hcD, hp2, kp⟩
    exact hd cs H' hl hc hcD hp2 kp
theorem sum_sgn (cs : List Nat) : (List.map (fun z : Str => z.length) (cs.map sgn)).sum = cs.length := by
  rw [List.map_map]
  induction cs with
  | nil => rfl
  | cons c r ih => rw [List.map_cons, List.sum_cons, ih, List.length_cons]; show 1 + r.length = r.length + 1; omega
theorem Lt.ok {c : Nat} (h : Lt c) : Okc c := by
  have := h.2
  unfold Okc
  omega
/-- a text of few signs, or a thing of another kind -/
def Txt1 (z : Str) : Prop := (tl z).length ≤ 1000 ∧ ∀ c ∈ tl z, Okc c
def Thing (K : PySem.W.Frag) (H : Hp) (v : V) : Prop := (∃ z : Str, v = .str z ∧ Txt1 z) ∨ Oth K H v
theorem cutS_mem (z : Str) (lo hi : Option Int) : ∀ c ∈ tl (cutS z lo hi), c ∈ tl z := by
  intro c hc
  exact List.mem_of_mem_drop (List.mem_of_mem_take hc)
theorem oth_int {K : PySem.W.Frag} {H : Hp} {i : Int} : Oth K H (.int i) := ⟨"int", .base (.int i), by decide +kernel⟩
theorem oth_bl {K : PySem.W.Frag} {H : Hp} {b : Bool} : Oth K H (.bl b) := ⟨"bool", .base (.bl b), by decide +kernel⟩
theorem oth_non {K : PySem.W.Frag} {H : Hp} : Oth K H .non := ⟨"NoneType", .base .non, by decide +kernel⟩
theorem oth_lst {K : PySem.W.Frag} {H : Hp} {a : Addr} {xs : List V} (h : H a = some (.lst xs)) : Oth K H (.ref a) := ⟨"list", .base (.lst h), by decide +kernel⟩
theorem oth_tup {K : PySem.W.Frag} {H : Hp} {a : Addr} {xs : List V} (h : H a = some (.tup xs)) : Oth K H (.ref a) := ⟨"tuple", .base (.tup h), by decide +kernel⟩
theorem Kp.newAt {l : List Addr} {H H' : Hp} {p : Addr} {o : HO} (a : Kp l H H') (h : H' p = none) : Kp l H (upd H' p o) := a.trans (Kp.new h)
theorem Same.kp {H0 H H' : Hp} {p : Addr} (a : Same H0 H) (k : Kp [p] H H') (h : H0 p = none) : Same H0 H' := fun b o e => k b o (a b o e) (by
  intro z
  have q := List.mem_singleton.mp z
  rw [q, h] at e
  cases e)
theorem Oth.mv {K : PySem.W.Frag} {H H' : Hp} {v : V} (h : Oth K H v) (s : Same H H') : Oth K H' v := by
  obtain ⟨T, ty, kb⟩ := h
  refine ⟨T, ?_, kb⟩
  cases ty with
  | base b =>
    generalize ht : Value.type T = t at b
    cases b with
    | non => injection ht with ht; subst ht; exact .base .non
    | bl x => injection ht with ht; subst ht; exact .base (.bl x)
    | int i => injection ht with ht; subst ht; exact .base (.int i)
    | str x => injection ht with ht; subst ht; exact .base (.str x)
    | flt x => injection ht with ht; subst ht; exact .base (.flt x)
    | lst e => injection ht with ht; subst ht; exact .base (.lst (s _ _ e))
    | frz e => injection ht with ht; subst ht; exact .base (.frz (s _ _ e))
    | tup e => injection ht with ht; subst ht; exact .base (.tup (s _ _ e))
    | dK e => injection ht with ht; subst ht; exact .base (.dK (s _ _ e))
    | dT e => injection ht with ht; subst ht; exact .base (.dT (s _ _ e))
    | ins e => cases ht
  | byt b => exact .byt b
  | set e => exact .set (s _ _ e)
  | kList e c => exact .kList e c
  | kTuple e c => exact .kTuple e c
  | kDict e c => exact .kDict e c
  | fTuple e => exact .fTuple (s _ _ e)
  | fDict e => exact .fDict (s _ _ e)
def spLaw (K : PySem.W.Frag) : Sp := fun vs H Q _ => ∃ (a : Addr) (ns : List Int), vs = [.ref a] ∧ SqL K H a (ns.map V.int) ∧ ns.length ≤ 63 ∧ ∀ H', Q (.bl true) H'
end IC
namespace IC
open PySem L2 TL
/-! ### a static method called by its class; list(text) -/
/-- C.m is a static method: its record at p, its def at g -/
structure SMet (K : PySem.W.Frag) (C : Addr) (mc : Value) (m : Str) (p g : Addr) : Prop where
  rd : ClX.CRead K C mc
  fnd : PySem.W.findCls K (.ref C) mc m = some (.get (.builtin "staticmethod.__get__") (.ref p) .none (.ref C))
  rec_ : ∃ rest, PySem.W.recIn K p "staticmethod" = some (.ref g :: rest)
  kp : PySem.W.keepIn K (.ref g) = true
def tSM (C : Addr) (sp : Sp) (ta : TE) (t : TA) : TE := fun σ H Q => ta σ H fun x H1 => x = .ref C ∧ t σ H1 fun vs H2 => sp vs H2 Q E0
theorem pe_smeth {X : Cx} {k j : Nat} {C p g : Addr} {mc : Value} {fd : FuncData} {ps : List Str} {sp : Sp} {o e : Expr} {es : List Expr} {m : Str} {pos apos : Pos} {ta : TE} {t : TA} {pl : Sem Bool}
    (ho : PE X o ta) (S : SMet X.K C mc m p g) (F : FnOk X.prog X.w X.K X.mg X.base CX0 k g fd ps sp) (hb : Binds X.K fd ps []) (hr : Room j X.A) (hk : k ≤ j) (ha : PA X (e :: es) t)
    (he : starEach (e :: es) X.env = (false, eval e X.env) :: starEach es X.env := by rfl) (hpl : (backTo pos (starEach es X.env)).any (·.1) = false := by rfl)
    (ht : eval (.Call (.Attribute o m apos) (e :: es) [] pos) X.env = (do
      let ov ← eval o X.env; standAt apos.atName
      let (f, first) ← holding [ov] (getMethod ov m pl); callWith pos f first (backTo pos (starEach (e :: es) X.env)) (backToKw pos (keywordEach [] X.env))) := by rfl) :
    PE X (.Call (.Attribute o m apos) (e :: es) [] pos) (tSM C sp ta t) := by
  refine ⟨fun pins s σ H Q I h => PySem.W.methodCall_KW (pl := pl) (thn (ho.run pins s σ H _ I h) fun u s1 ⟨x, H1, I1, rx, ex, q⟩ => ?_) ht⟩
  subst ex
  obtain rfl : u = Value.ref C := rx
  obtain ⟨rest, hrc⟩ := S.rec_
  refine PySem.W.method_cls I1.kIn S.rd.ga (PySem.W.cls_bind I1.kIn S.rd.rd S.fnd ?_)
  refine wpAny_call (PySem.W.sm_get (s := { s1 with toks := s1.toks + 1 }) I1.kIn hrc (PySem.W.handed_on rfl ?_))
  have I2 : Inv X pins σ H1 { s1 with toks := s1.toks + 1 } := I1.tok _
  exact PySem.W.callWith_K (h₀ := X.base) I2.ok.mod.kin S.kp (thn (ha.run pos pins _ σ H1 _ I2 q) fun us s3 ⟨vs, H3, I3, rv, q3⟩ => ⟨I3.kIn, run_fn F (hr.mono hk) hb .nil pass0 I3 rv (by rw [List.append_nil]; exact q3)⟩) he hpl
theorem vals_some : ∀ (its : List Value), (∀ u ∈ its, ∃ y, RelV y u) → ∃ ys, Vals ys its
  | [], _ => ⟨[], .nil⟩
  | u :: r, h => by
    obtain ⟨y, hy⟩ := h u List.mem_cons_self
    obtain ⟨ys, hys⟩ := vals_some r fun v hv => h v (List.mem_cons_of_mem _ hv)
    exact ⟨y :: ys, .cons hy hys⟩
/-- list(text): a new list -/
theorem call_list_txt {X : Cx} (hc : X.A.handled = none) : CallR X (.type "list") (fun xs H Q => ∃ z : Str, xs = [.str z] ∧ z.length ≤ sizeLine ∧ ∀ l ys, H l = none → Q (.ref l) (upd H l (.lst ys))) := by
  intro pins s σ H xs us Q I r h
  obtain ⟨z, rfl, hz, q⟩ := h
  obtain ⟨u, rfl, rx⟩ := vals1 r
  obtain ⟨t, rfl⟩ := rx
  refine call_list_str hc z t (fun h' tk acc c' kp e it => ?_) hz
  obtain ⟨ys, hys⟩ := vals_some acc.toList fun u hu => by
    obtain ⟨j, hj, e1⟩ := List.getElem_of_mem hu
    obtain ⟨c, w, _, rfl⟩ := it.2 j u (by
      rw [← e1]
      simp)
    exact ⟨.str ⟨#[c]⟩, w, rfl⟩
  have hl := hys.length
  refine ⟨.ref s.heap.objs.size, _, I.laid (t' := tk) kp (Nat.le_refl _) (show ObjOk X.prog X.w _ h' _ (.lst ys) from ⟨?_, acc.toList, c', hys, by simpa using e⟩), rfl, q _ ys (I.hok.fresh (Nat.le_refl _))⟩
  have h1 : acc.size = z.cps.size := it.1
  have h2 : acc.toList.length = acc.size := Array.length_toList
  rw [hl, h2, h1]
  exact hz
end IC
namespace IC
open PySem L2 TL
/-! ### the modes -/
def modesS : List Str := ["join", "inner", "apart", "must", "either", "never", "outside", "alone"]
def modesV : List V := modesS.map V.str
theorem mode_at (d : Int) (h0 : 0 ≤ d) (h1 : d < 8) : ∃ z : Str, atI modesV d = some (.str z) ∧ z ∈ modesS ∧ 4 ≤ (tl z).length ∧ (tl z).length ≤ 7 := by
  obtain ⟨j, rfl⟩ : ∃ j : Nat, d = j := ⟨d.toNat, by omega⟩
  have hj : j < 8 := by omega
  have all : ∀ k : Fin 8, ∃ z : Str, modesS[k.val]? = some z ∧ 4 ≤ (tl z).length ∧ (tl z).length ≤ 7 := by
    intro k
    match k with
    | 0 => exact ⟨"join", rfl, by decide +kernel, by decide +kernel⟩
    | 1 => exact ⟨"inner", rfl, by decide +kernel, by decide +kernel⟩
    | 2 => exact ⟨"apart", rfl, by decide +kernel, by decide +kernel⟩
    | 3 => exact ⟨"must", rfl, by decide +kernel, by decide +kernel⟩
    | 4 => exact ⟨"either", rfl, by decide +kernel, by decide +kernel⟩
    | 5 => exact ⟨"never", rfl, by decide +kernel, by decide +kernel⟩
    | 6 => exact ⟨"outside", rfl, by decide +kernel, by decide +kernel⟩
    | 7 => exact ⟨"alone", rfl, by decide +kernel, by decide +kernel⟩
  obtain ⟨z, h2, h3, h4⟩ := all ⟨j, hj⟩
  refine ⟨z, atI_nat ?_, List.mem_of_getElem? h2, h3, h4⟩
  unfold modesV
  rw [List.getElem?_map, h2]
  rfl
theorem modes_flat : modesV.all flatV = true := by decide +kernel
/-- what stands of the class Mode in the text -/
structure ModeTxt (K : PySem.W.Frag) (mg : Str → Option Value) (C p g t : Addr) (mc : Value) : Prop where
  mo : mg "Mode" = some (.ref C)
  rd : ClX.CRead K C mc
  all : ClX.CVal K C mc "ALL" (.ref t) (.ref t)
  tup : ∃ (o : Obj) (its : Array Value) (n : Nat), K.lookup t = some o ∧ o.cls = .type "tuple" ∧ o.data = .seq its n ∧ its.size ≤ sizeLine ∧ Vals modesV its.toList
  con : ∀ nm z : Str, (nm, z) ∈ ([("JOIN", "join"), ("INNER", "inner"), ("APART", "apart"), ("MUST", "must"), ("EITHER", "either"), ("NEVER", "never"), ("OUTSIDE", "outside"), ("ALONE", "alone")] : List (Str × Str)) → ∃ u, ClX.CVal K C mc nm (.str z) u
  sm : SMet K C mc "is_mode" p g
theorem ModeTxt.seq {K : PySem.W.Frag} {mg : Str → Option Value} {C p g t : Addr} {mc : Value} (M : ModeTxt K mg C p g t mc) (H : Hp) : SqT K H t modesV := .inr M.tup
/-- Mode.is_mode(thing), any value -/
def spIsMode (K : PySem.W.Frag) : Sp := fun vs H Q _ => ∃ v : V, vs = [v] ∧ ((∃ z : Str, v = .str z ∧ Q (.bl (inV v modesV)) H) ∨ (Oth K H v ∧ Q (.bl false) H))
end IC
namespace IC
open PySem L2 TL
open PyProof.Rows (envOfC)
/-! ### defs that ask repr: no repr may be under way around them -/
structure FnG (P : Program) (w : World) (K : PySem.W.Frag) (mg : Str → Option Value) (base : Heap) (k : Nat) (f : Addr) (fd : FuncData) (ps : List Str) (sp : Sp) : Prop where
  len : ∀ vs H Q E, sp vs H Q E → vs.length = ps.length
  run : ∀ (B : Around) (outer : List Env) (s : Shared) (H : Hp) (args : Args) (us : List Value) (vs : List V) (Q : VK) (E : XK), B.guards = some [] → Room k B → Env0 P w K mg base B outer s H → BindsTo s fd args (ps.zip us) → Vals vs us →
    sp vs H Q E → codeAny (model P w) B (.call (.ref f) args) (CR CX0 outer P w H s Q E) s
section
variable {P : Program} {w : World} {K : PySem.W.Frag} {mg : Str → Option Value} {base : Heap}
theorem FnOk.g {k : Nat} {f : Addr} {fd : FuncData} {ps : List Str} {sp : Sp} (F : FnOk P w K mg base CX0 k f fd ps sp) : FnG P w K mg base k f fd ps sp :=
  ⟨F.len, fun B outer s H args us vs Q E _ => F.run B outer s H args us vs Q E⟩
theorem FnG.mono {j k : Nat} {f : Addr} {fd : FuncData} {ps : List Str} {sp : Sp} (F : FnG P w K mg base j f fd ps sp) (h : j ≤ k) : FnG P w K mg base k f fd ps sp :=
  ⟨F.len, fun B outer s H args us vs Q E hg hr => F.run B outer s H args us vs Q E hg (hr.mono h)⟩
theorem Fun.okG {x qual : Str} {st : Stmt} {f : Addr} {fd : FuncData} {N ps : List Str} {k : Nat} {sp : Sp} (F : Fun K x qual st f fd) (S : FnScope N ps (defScope st)) (len : ∀ vs H Q E, sp vs H Q E → vs.length = ps.length)
    (hbody : ∀ (cdv : Value) (B : Around) (outer : List Env) (s : Shared) (H : Hp) (vs : List V) (Q : VK) (E : XK), (B.deeper (envOfC qual (defScope st) s.heap.objs.size f cdv)).guards = some [] →
      Room k (B.deeper (envOfC qual (defScope st) s.heap.objs.size f cdv)) → sp vs H Q E →
      ∃ t, PSs (cxOf CX0 P w K mg base N qual (defScope st) f cdv B outer s H E).nox (defBody st) t ∧ t { nx := fun _ H' => Q .non H', rt := Q } (start N vs) H) : FnG P w K mg base (k + 1) f fd ps sp := by
  obtain ⟨oc, od, kV, doc, pm, an, cdv, ct, osl, rfl, lk, hcd⟩ := F.ex
  refine ⟨len, fun B outer s H args us vs Q E hg hr e0 hb r hsp => ?_⟩
  have inK : K.In s.heap := e0.mod.kin.keeps fun b o e => And.left (e0.bs b o e)
  have noL : s.heap.NoLimit := e0.mod.nolimit.keeps fun b o e => And.left (e0.bs b o e)
  have kinds : ∀ y ∈ ps.zip us, (defScope st).names.lookup y.1 = some .local ∨ ((defScope st).names.lookup y.1 = some .cell ∧ ((cellsFrom (s.heap.objs.size + 1) (defScope st).names []).lookup y.1).isSome = true) := by
    rintro ⟨n, v⟩ hy
    cases S.par n (And.left (List.of_mem_zip hy)) with
    | inl q => exact Or.inl q
    | inr q => exact Or.inr (And.intro q (PySem.W.cellsFrom_some _ _ _ (Or.inl q)))
  refine codeAny_call_function (Room.depth hr) (inK _ _ lk) rfl S.co S.gen rfl (PySem.W.codeRec_of inK hcd) (hb _ _ _ _ (wpAny_newFunctionEnv_cells S.kind kinds fun env he s1 x => ?_))
  subst he
  obtain ⟨t, ht, hq⟩ := hbody cdv B outer s H vs Q E hg (Room.deeper hr _) hsp
  have I0 := inv_start (CX := CX0) (E := E) S (Room.hd hr) e0 (len _ _ _ _ hsp) r x
  refine And.intro (noL.keeps (And.left (And.intro x.toInCall.keep trivial))) (codeAny_func (wpAny_mono (ht.nox.run [] s1 (start N vs) H _ I0 hq) (fun fl s' hs => ?_) fun _ _ z => z))
  cases fl with
  | ret u =>
    obtain ⟨v, σ', H', J, rv, q⟩ := hs
    exact Exists.intro v (Exists.intro H' ⟨J.os, J.bare, J.base, J.hok, rv, q⟩)
  | next =>
    obtain ⟨σ', H', J, q⟩ := hs
    exact Exists.intro V.non (Exists.intro H' ⟨J.os, J.bare, J.base, J.hok, rfl, q⟩)
  | brk =>
    obtain ⟨_, _, _, q⟩ := hs
    exact q.elim
  | cont =>
    obtain ⟨_, _, _, q⟩ := hs
    exact q.elim
/-- a def of the text by its name, for a caller around which no repr is under way -/
structure DfG (P : Program) (w : World) (K : PySem.W.Frag) (mg : Str → Option Value) (base : Heap) (k : Nat) (x : Str) (ps : List Str) (sp : Sp) : Prop where
  ex : ∃ (f : Addr) (fd : FuncData), FnG P w K mg base k f fd ps sp ∧ mg x = some (.ref f) ∧ PySem.W.keepIn K (.ref f) = true ∧ Binds K fd ps []
theorem pe_dfG {X : Cx} {k j : Nat} {x : Str} {ps : List Str} {sp : Sp} {e : Expr} {es : List Expr} {t : TA} {p pos : Pos} (D : DfG X.prog X.w X.K X.mg X.base k x ps sp) (hgd : X.A.guards = some []) (hr : Room j X.A) (hk : k ≤ j) (hg : Gl X x)
    (ha : PA X (e :: es) t) (hdb : (x == ("__debug__" : Str)) = false := by decide) (he : starEach (e :: es) X.env = (false, eval e X.env) :: starEach es X.env := by rfl) (hpl : (backTo pos (starEach es X.env)).any (·.1) = false := by rfl) :
    PE X (.Call (.Name x p) (e :: es) [] pos) (tCall sp [] E0 t) := by
  obtain ⟨f, fd, F, hm, hkp, hb⟩ := D.ex
  refine ⟨fun pins s σ H Q I h => wpAny_Call_Name_kw (ld_glob I hg hm (PySem.W.callWith_K (h₀ := X.base) I.ok.mod.kin hkp (thn (ha.run pos pins s σ H _ I h) fun us s1 hh => ?_) he hpl) hdb)⟩
  obtain ⟨vs, H1, I1, r, q⟩ := hh
  refine And.intro I1.kIn ?_
  rw [List.append_nil] at q
  have hl : us.length = ps.length := by rw [← r.length]; exact F.len _ _ _ _ q
  refine wpAny_call (codeAny_mono (F.run X.A X.stack s1 H1 ⟨us, []⟩ us vs Q E0 hgd (hr.mono hk) I1.env0 (by have z := hb s1 us I1.kIn (by rw [List.append_nil]; exact hl); rw [List.append_nil] at z; exact z) r q) fun r s' hq => ?_)
  cases r with
  | error er => exact False.elim hq
  | ok fl =>
    cases fl with
    | ret u => exact I1.after hq
    | next => exact False.elim hq
    | brk => exact False.elim hq
    | cont => exact False.elim hq
/-- repr of data -/
theorem call_reprD {X : Cx} (hgd : X.A.guards = some []) (hu : X.A.units + 64 < cLine) : CallR X (.builtin "repr") (fun xs H Q => ∃ (a : Addr) (d : PyData), xs = [.ref a] ∧ Dp X.K H (.ref a) d ∧ d.showable = true ∧ d.hasDict = false ∧ d.depth ≤ 20 ∧ d.shown.length ≤ sizeLine ∧ Q (.str d.shown) H) := by
  intro pins s σ H xs us Q I r h
  obtain ⟨a, d, rfl, hd, h1, h2, h3, h4, q⟩ := h
  obtain ⟨u, rfl, ru⟩ := vals1 r
  obtain rfl : u = Value.ref a := ru
  obtain ⟨as, rd⟩ := hd.reads I _ _ _ rfl
  refine repr_of_reads' rd h1 (fun e => by rw [h2] at e; cases e) hgd (by omega) (fun _ _ e => e) (fun h' w' tk kp => ⟨.str d.shown, H, I.kept (t' := tk) kp, ⟨_, rfl⟩, q⟩) h4
end
end IC
namespace IC
open PySem L2 TL PyProof.Rows
/-- the law's own call, where its def is an FnG -/
theorem call_law {P : Program} {w : World} {K : PySem.W.Frag} {mg mb : Str → Option Value} {k : Nat} {fa a : Addr} {fd : FuncData} {s0 : Shared} {vs : List Value} {ns : List Int}
    (inK : K.In s0.heap) (gl : s0.heap.Ns mainGlobals mg) (bl : s0.heap.Ns builtinsNs mb) (bo : ∀ x : Str, x ≠ "__name__" → mb x = bootBuiltins x) (noL : s0.heap.NoLimit) (gn : s0.gens = #[])
    (at_ : s0.heap.get? a = some { cls := .type "list", data := .seq vs.toArray }) (are : IntsAre vs ns) (small : ns.length ≤ sizeLine) (hr : Room k callerA) (hg : callerA.guards = some [])
    (F : ∀ base : Heap, K.In base → base.Ns mainGlobals mg → FnG P w K mg base k fa fd ["script"] (spLaw K)) (bnd : ∀ (s : Shared) (u : Value), BindsTo s fd ⟨[u], []⟩ [("script", u)]) (few : ns.length ≤ 63) :
    codeAny (model P w) callerA (.call (.ref fa) ⟨[.ref a], []⟩) (fun r s' => r = .ok (.ret (.bool true)) ∧ OldK s0.heap s'.heap ∧ s'.os = s0.os ∧ AllBare s'.gens) s0 := by
  have rel := vals_ints are
  have main : ∀ G : Hp, Only G → SqL K G a (ns.map V.int) → HOk P w G s0.heap → (∀ b, G b ≠ none → b = a ∧ K.lookup a = none) →
      codeAny (model P w) callerA (.call (.ref fa) ⟨[.ref a], []⟩) (fun r s' => r = .ok (.ret (.bool true)) ∧ OldK s0.heap s'.heap ∧ s'.os = s0.os ∧ AllBare s'.gens) s0 := by
    intro G only sq hok one
    have down : ∀ {b : Addr} {o : Obj}, s0.heap.get? b = some o → G b = none → (hidT s0.heap G).get? b = some o := fun {b o} e n => hidT_get e n
    have free : ∀ {b : Addr} {o : Obj} {es : Array DictEntry} {ep : Nat}, s0.heap.get? b = some o → o.data = .dict es ep → G b = none := by
      intro b o es ep e d
      cases q : G b with
      | none => rfl
      | some u =>
        obtain ⟨rfl, _⟩ := one b (by rw [q]; simp)
        rw [at_] at e
        cases e
        cases d
    have names : ∀ {b : Addr} {m : Str → Option Value}, s0.heap.Ns b m → (hidT s0.heap G).Ns b m := by
      rintro b m ⟨o, es, ep, e, d, r⟩
      exact ⟨o, es, ep, down e (free e d), d, r⟩
    have inB : K.In (hidT s0.heap G) := by
      intro b o e
      refine down (inK b o e) ?_
      cases q : G b with
      | none => rfl
      | some u =>
        obtain ⟨rfl, n⟩ := one b (by rw [q]; simp)
        rw [n] at e
        cases e
    obtain ⟨mc, c1, c2⟩ := noL
    have env : Env0 P w K mg (hidT s0.heap G) callerA [] s0 G := ⟨rfl, ⟨inB, names gl, ⟨mb, names bl, bo⟩, ⟨mc, names c1, c2⟩⟩, fun b o e => of_hidT e, Nat.le_of_eq (hidT_size _ _), trivial, fun b hb => absurd (show b ∈ ([] : List Addr) from hb) (by simp), hok, .of_eq gn⟩
    have go := (F _ inB (names gl)).run callerA [] s0 G ⟨[.ref a], []⟩ [.ref a] [.ref a] (fun v _ => v = .bl true) (fun _ _ _ => False) hg hr env (bnd s0 (.ref a)) (.cons rfl .nil) ⟨a, ns, rfl, sq, few, fun _ => rfl⟩
    refine codeAny_mono go (fun r s' h => ?_)
    match r, h with
    | .error e, h => exact False.elim h
    | .ok .next, h => exact False.elim h
    | .ok .brk, h => exact False.elim h
    | .ok .cont, h => exact False.elim h
    | .ok (.ret u), ⟨v, G', o1, o2, un, hok', r', q⟩ =>
      have q : v = V.bl true := q
      subst q
      obtain rfl : u = Value.bool true := r'
      refine And.intro rfl (And.intro (OldK.of_keep fun b o e => ?_) (And.intro o1 o2))
      cases q : G b with
      | none => exact un.keep b o e q (fun z => absurd (show b ∈ ([] : List Addr) from z) (by simp)) (by simp)
      | some u =>
        rcases only b with z | ⟨ob, xs, z⟩
        · rw [q] at z
          cases z
        · have t1 := And.left (hok b _ z)
          have t2 := And.left (hok' b _ (un.frzs b ob _ z))
          rw [e] at t1
          cases t1
          exact t2
  cases hk : K.lookup a with
  | some o =>
    have e := inK a o hk
    rw [at_] at e
    cases e
    exact main (fun _ => none) (fun _ => Or.inl rfl) (Or.inr ⟨_, vs.toArray, _, hk, rfl, rfl, rfl, by rw [List.size_toArray, are.length]; exact small, by simpa using rel⟩) (fun b u z => nomatch (show (none : Option HO) = some u from z)) (fun b z => absurd rfl z)
  | none =>
    have only1 : ∀ b, (if b = a then some (HO.frz { cls := .type "list", data := .seq vs.toArray } (.lst (ns.map V.int))) else none) ≠ none → b = a := by
      intro b z
      by_cases hb : b = a
      · exact hb
      · rw [if_neg hb] at z
        exact absurd rfl z
    refine main (fun b => if b = a then some (.frz { cls := .type "list", data := .seq vs.toArray } (.lst (ns.map V.int))) else none) (fun b => ?_) (Or.inl (Or.inr ⟨_, if_pos rfl⟩)) (fun b u z => ?_) (fun b z => And.intro (only1 b z) hk)
    · by_cases hb : b = a
      · exact Or.inr ⟨_, _, if_pos hb⟩
      · exact Or.inl (if_neg hb)
    · have hb := only1 b (by rw [show (if b = a then some (HO.frz { cls := .type "list", data := .seq vs.toArray } (.lst (ns.map V.int))) else none) = some u from z]; simp)
      subst hb
      have z2 := (if_pos rfl).symm.trans z
      cases z2
      exact And.intro at_ (And.intro (by rw [List.length_map]; exact small) ⟨vs, _, rel, at_⟩)
theorem walkG {l : PySem.W.OpenLaw} {k : Nat} {q : Program} {loose : List Str} {XP : (Str → Option Value) → Heap → Prop} {YP : World → Heap → Prop} {d : DefRec} {K : Params → PySem.W.Frag} (hn : l.most = some 63) (hdf : d.params.defaults = []) (hr : Room k callerA)
    (hY : ∀ (w : World) (h : Heap), YP w h → (K w.params).In h)
    (F : ∀ (w : World) (mg : Str → Option Value) (fa : Addr) (h : Heap), (K w.params).In h → h.Ns mainGlobals mg → mg d.name = some (.ref fa) →
      ∃ fd : FuncData, (∀ (s : Shared) (u : Value), BindsTo s fd ⟨[u], []⟩ [("script", u)]) ∧ ∀ base : Heap, (K w.params).In base → base.Ns mainGlobals mg → FnG l.prog w (K w.params) mg base k fa fd ["script"] (spLaw (K w.params))) :
    PySem.W.WalkO q loose XP YP l.row.toRowW d [] (fun f vs => PySem.call f vs) := by
  refine Att.attach_call hn hdf fun w s₀ s₁ mg mb fa o pm cd doc a vs ns G Y ho hd hcd hmg hobj hints hlen hg => ?_
  obtain ⟨fd, hb, hF⟩ := F w mg fa _ (hY w _ Y) G.T.g hmg
  exact call_law (hY w _ Y) G.T.g G.T.b G.T.builtins G.T.nolimit hg hobj hints (Nat.le_trans hlen (by decide)) hr rfl hF hb hlen
end IC
namespace IC
open PySem L2 TL PyProof.Rows
/-! ### try: several except clauses, each with a name for the error or without -/
abbrev Cl := Value × Option Nat × (Addr → Value → Option Addr → TS)
/-- the slot i is emptied behind the suite -/
def emptied (i : Nat) (D : Ends) : Ends := { nx := fun τ G => D.nx (τ.set i none) G, rt := D.rt, bk := fun τ G => D.bk (τ.set i none) G, ct := fun τ G => D.ct (τ.set i none) G }
def wCl (K : PySem.W.Frag) (out : WX) (D : Ends) : List Cl → WX
  | [] => out
  | (c, some i, ts) :: r => fun cls d σ H => ∃ b, PySem.W.exmOne K cls c = some b ∧ (b = true → ∀ a, H a = none → ts a cls d (emptied i D) (σ.set i (some (.ref a))) H) ∧ (b = false → wCl K out D r cls d σ H)
  | (c, none, ts) :: r => fun cls d σ H => ∃ b, PySem.W.exmOne K cls c = some b ∧ (b = true → ∀ a, H a = none → ts a cls d D σ H) ∧ (b = false → wCl K out D r cls d σ H)
inductive ClOk (X : Cx) : List ExceptHandler → List Cl → Prop
  | nil : ClOk X [] []
  | nm {x n : Str} {c : Value} {i : Nat} {ts : Addr → Value → Option Addr → TS} {b0 : Stmt} {st : List Stmt} {np pos : Pos} {hs : List ExceptHandler} {l : List Cl} (hi : X.N[i]? = some n) (hl : X.env.kindOf n = some .local) (hc : Names X x c)
      (su : ∀ (a : Addr) (oe : Obj) (cls : Value) (d : Option Addr) (pn : List (Addr × Obj)), Zc cls d oe → (∃ vs, oe.data = .fields vs) → PSs (X.suite a ((a, oe) :: pn)) (b0 :: st) (ts a cls d)) (r : ClOk X hs l) :
      ClOk X (.ExceptHandler (some (.Name x np)) (some n) (b0 :: st) pos :: hs) ((c, some i, ts) :: l)
  | no {x : Str} {c : Value} {ts : Addr → Value → Option Addr → TS} {b0 : Stmt} {st : List Stmt} {np pos : Pos} {hs : List ExceptHandler} {l : List Cl} (hc : Names X x c)
      (su : ∀ (a : Addr) (oe : Obj) (cls : Value) (d : Option Addr) (pn : List (Addr × Obj)), Zc cls d oe → (∃ vs, oe.data = .fields vs) → PSs (X.suite a ((a, oe) :: pn)) (b0 :: st) (ts a cls d)) (r : ClOk X hs l) :
      ClOk X (.ExceptHandler (some (.Name x np)) none (b0 :: st) pos :: hs) ((c, none, ts) :: l)
/-- the name of a clause is asked: its class -/
theorem clause_name {X : Cx} {Y : Cx} {x : Str} {c : Value} {np : Pos} {pins : List (Addr × Obj)} {σ : L2.St} {H : Hp} {s : Shared} {Q E : Value → Shared → Prop} (hc : Names X x c) (J : Inv Y pins σ H s) (e1 : Y.env = X.env) (e2 : Y.mg = X.mg) (q : Q c s) :
    wpAny (model Y.prog Y.w) Y.A (eval (.Name x np) X.env) Q E s := by
  obtain ⟨h1, h2, h3⟩ := hc
  rw [← e1]
  have g : Gl Y x := by unfold Gl at h1 ⊢; rw [e1]; exact h1
  cases h3 with
  | inl h => exact ld_glob J g (by rw [e2]; exact h) q h2
  | inr h => exact ld_blt J g (by rw [e2]; exact And.left h) (And.left (And.right h)) q (And.right (And.right h)) h2
section
variable {X : Cx} {body : List Stmt} {h0 : ExceptHandler} {hs : List ExceptHandler} {l : List Cl} {pos : Pos} {tb : WX → TS} {out : WX}
theorem ps_try_cl (es : X.stack = X.env :: X.outer) (ef : X.env.frame = some X.env.locals) (nd : X.N.Nodup) (tk : Takes X out)
    (hb : ∀ (W : WX) (pn : List (Addr × Obj)) (xe : Value → Shared → Prop), Takes (X.tr pn xe) W → PassesOwn (model X.prog X.w) X.A X.env xe → PSs (X.tr pn xe) body (tb W))
    (hh : ClOk X (h0 :: hs) l) : PS X (.Try body (h0 :: hs) [] [] pos) (fun D σ H => tb (wCl X.K out D l) D σ H) := by
  refine ⟨fun pins s σ H D I h => wpAny_Try_except ?_⟩
  have ok := I.ok
  have fr : X.A.frames = some (X.env :: X.outer) := by rw [ok.frames, es]
  have bod := hb (wCl X.K out D l) (X.pn ++ pins) (fun e s₁ => wpAny (model X.prog X.w) X.A (noteFrame e X.env) (fun _ s₂ => wpAny (model X.prog X.w) X.A (setFlight e none) (fun _ s₃ => wpAny (model X.prog X.w) X.A (handleBy e X.env (h0 :: hs)) (SP X pins D) X.xe s₃) X.xe s₂) X.xe s₁)
  refine wpAny_mono ((bod (fun u s' air => ?_) PassesOwn.looking).run [] s σ H D (I.toTry _) h) (fun f s1 hsp => ?_) (fun _ _ z => z)
  · obtain ⟨a, B, sI, pins', τ, G, cls, d, rfl, J1, nb, up, sky, na, os, ag, wish⟩ := air
    have J : Inv X pins τ G sI := J1.ofTry ok
    rw [show (X.tr (X.pn ++ pins) _).stack = X.env :: X.outer from es] at sky
    refine Sky.land Zc.steady fr ef sky fun h3 fly up3 => ?_
    have J3 : Inv X pins τ G { s' with heap := h3 } := J.landed nb fly.1 (up.trans up3) os ag
    obtain ⟨oe, fv, at3, zc3, fd3⟩ := fly.there
    have off : a ∉ frs (X.env :: X.outer) := fun hm => by
      obtain ⟨_, o, e, nf⟩ := fly.2.2.1.mem hm
      rw [at3] at e
      cases e
      exact nf _ fd3
    have nL : a ≠ X.env.locals := fun z => off (List.mem_filterMap.mpr ⟨X.env, List.mem_cons_self, by rw [ef, z]⟩)
    have nF : a ∉ X.fs := fun hm => by
      obtain ⟨e, he, q⟩ := List.mem_filterMap.mp hm
      exact off (List.mem_filterMap.mpr ⟨e, List.mem_cons_of_mem _ he, q⟩)
    have typ : PySem.W.Looks (model X.prog X.w) h3 (typeOf (.ref a)) cls := fun A Q E s k q => wpAny_typeOf_ref (k _ _ at3) (by rw [And.left zc3]; exact q)
    have su0 := J3.suite at3 fd3 na nL nF
    have all : ∀ {hs' : List ExceptHandler} {l' : List Cl}, ClOk X hs' l' → wCl X.K out D l' cls d τ G → wpAny (model X.prog X.w) X.A (handleBy (.ref a) X.env hs') (SP X pins D) X.xe { s' with heap := h3 } := by
      intro hs' l' ck
      induction ck with
      | nil =>
        intro w
        obtain ⟨k1, k2, k3, oo, ov, T, oT, ts', e1, e2, e3, e4, e5⟩ := id fly
        refine wpAny_handleBy_nil ?_
        unfold PySem.passOn
        refine wpAny_bind (wpAny_field e1 e3 e4 ?_)
        rw [if_neg (show ¬ ((Value.ref T == Value.none) = true) from by simp)]
        have go : wpAny (model X.prog X.w) X.A (setFlight (.ref a) X.env.frame) (fun _ s4 => wpAny (model X.prog X.w) X.A (throw (.ref a) : Sem Flow) (SP X pins D) X.xe s4) X.xe { s' with heap := h3 } := by
          rw [ef]
          exact HandSPX.setFlight_upZ fly fun h4 held up4 => wpAny_throw (tk _ _ ⟨a, B, sI, pins, τ, G, cls, d, rfl, J, nb, (up.trans up3).trans up4, Or.inr (Or.inr (by rw [es]; exact held)), na, os, ag, w⟩)
        first
          | exact wpAny_bind (wpAny_pure (wpAny_bind go))
          | exact wpAny_bind go
      | @nm x n c i ts b0 st np pos hs2 l2 hi hl hc su r ih =>
        rintro ⟨b, hb1, yes, no⟩
        refine wpAny_handleBy_cons (codeAny_handlers_test ?_) (by intro q; cases q)
        refine clause_name (Y := X.suite a ((a, oe) :: (X.pn ++ pins))) hc su0 rfl rfl ((PySem.W.exm_one (M := model X.prog X.w) J3.kIn typ hb1).here ?_)
        match b, yes, no with
        | false, _, no => exact ih (no rfl)
        | true, yes, _ =>
          refine codeAny_handlers_suite_as (HandSPX.lands_againZ fly fun h4 fly4 up4 => ?_)
          obtain ⟨o4, v4, at4, zc4, fd4⟩ := fly4.there
          have su4 := (J.landed (s' := { s' with heap := h4 }) nb fly4.1 ((up.trans up3).trans up4) os ag).suite at4 fd4 na nL nF
          refine store_ok (X := X.suite a ((a, o4) :: (X.pn ++ pins))) (v := .ref a) su4 nd hi (Or.inl hl) rfl (fun s5 S5 => ?_) (Or.inr hl)
          refine wpAny_mono ((su a o4 cls d (X.pn ++ pins) zc4 ⟨_, fd4⟩).run [] s5 _ G _ S5 (yes rfl a na)) (fun f s6 fin => ?_) (fun _ _ z => z.elim)
          cases f with
          | next =>
            obtain ⟨τ6, G6, S6, q6⟩ := fin
            exact gone_ok (S6.unsuite ok) nd hi hl fun s7 J7 => ⟨_, _, J7, q6⟩
          | brk =>
            obtain ⟨τ6, G6, S6, q6⟩ := fin
            exact gone_ok (S6.unsuite ok) nd hi hl fun s7 J7 => ⟨_, _, J7, q6⟩
          | cont =>
            obtain ⟨τ6, G6, S6, q6⟩ := fin
            exact gone_ok (S6.unsuite ok) nd hi hl fun s7 J7 => ⟨_, _, J7, q6⟩
          | ret u =>
            obtain ⟨v6, τ6, G6, S6, r6, q6⟩ := fin
            exact gone_ok (S6.unsuite ok) nd hi hl fun s7 J7 => ⟨_, _, _, J7, r6, q6⟩
      | @no x c ts b0 st np pos hs2 l2 hc su r ih =>
        rintro ⟨b, hb1, yes, no⟩
        refine wpAny_handleBy_cons (codeAny_handlers_test ?_) (by intro q; cases q)
        refine clause_name (Y := X.suite a ((a, oe) :: (X.pn ++ pins))) hc su0 rfl rfl ((PySem.W.exm_one (M := model X.prog X.w) J3.kIn typ hb1).here ?_)
        match b, yes, no with
        | false, _, no => exact ih (no rfl)
        | true, yes, _ =>
          refine codeAny_handlers_suite (HandSPX.lands_againZ fly fun h4 fly4 up4 => ?_)
          obtain ⟨o4, v4, at4, zc4, fd4⟩ := fly4.there
          have su4 := (J.landed (s' := { s' with heap := h4 }) nb fly4.1 ((up.trans up3).trans up4) os ag).suite at4 fd4 na nL nF
          refine wpAny_mono ((su a o4 cls d (X.pn ++ pins) zc4 ⟨_, fd4⟩).run [] _ _ G _ su4 (yes rfl a na)) (fun f s6 fin => ?_) (fun _ _ z => z.elim)
          cases f with
          | next =>
            obtain ⟨τ6, G6, S6, q6⟩ := fin
            exact Exists.intro τ6 (Exists.intro G6 (And.intro (S6.unsuite ok) q6))
          | brk =>
            obtain ⟨τ6, G6, S6, q6⟩ := fin
            exact Exists.intro τ6 (Exists.intro G6 (And.intro (S6.unsuite ok) q6))
          | cont =>
            obtain ⟨τ6, G6, S6, q6⟩ := fin
            exact Exists.intro τ6 (Exists.intro G6 (And.intro (S6.unsuite ok) q6))
          | ret u =>
            obtain ⟨v6, τ6, G6, S6, r6, q6⟩ := fin
            exact Exists.intro v6 (Exists.intro τ6 (Exists.intro G6 (And.intro (S6.unsuite ok) (And.intro r6 q6))))
    exact all hh wish
  · cases f with
    | next =>
      obtain ⟨τ, G, J, q⟩ := hsp
      exact wpAny_execs_nil (Exists.intro τ (Exists.intro G (And.intro (J.ofTry ok) q)))
    | brk =>
      obtain ⟨τ, G, J, q⟩ := hsp
      exact Exists.intro τ (Exists.intro G (And.intro (J.ofTry ok) q))
    | cont =>
      obtain ⟨τ, G, J, q⟩ := hsp
      exact Exists.intro τ (Exists.intro G (And.intro (J.ofTry ok) q))
    | ret u =>
      obtain ⟨v, τ, G, J, r, q⟩ := hsp
      exact Exists.intro v (Exists.intro τ (Exists.intro G (And.intro (J.ofTry ok) (And.intro r q))))
end
end IC
namespace IC
open PySem L2 TL
/-! ### what is never come to -/
section
variable {X : Cx}
theorem ps_dead {st : Stmt} : PS X st (fun _ _ _ => False) := ⟨fun _ _ _ _ _ _ h => h.elim⟩
theorem pss_dead {ss : List Stmt} : PSs X ss (fun _ _ _ => False) := ⟨fun _ _ _ _ _ _ h => h.elim⟩
theorem pt_dead {e : Expr} : PT X e (fun _ _ _ => False) := ⟨fun _ _ _ _ _ _ h => h.elim⟩
theorem pe_dead {e : Expr} : PE X e (fun _ _ _ => False) := ⟨fun _ _ _ _ _ _ h => h.elim⟩
end
/-! ### methods by their class -/
structure MDf (P : Program) (w : World) (K : PySem.W.Frag) (mg : Str → Option Value) (base : Heap) (CX : CXT) (k : Nat) (C : Addr) (m : Str) (ps : List Str) (dvs : List V) (sp : Sp) : Prop where
  ex : ∃ (f : Addr) (fd : FuncData) (ds : List Value), FnOk P w K mg base CX k f fd ps sp ∧ Meth K C m f ∧ Binds K fd ps ds ∧ Vals dvs ds
/-- o.m(..), what is raised is wished for at the caller's slots -/
def tMethS (C : Addr) (m : Str) (sp : Sp) (dvs : List V) (E : L2.St → XK) (ta : TE) (t : TA) : TE := fun σ H Q => ta σ H fun x H1 => ∃ a dx fs, x = .ref a ∧ H1 a = some (.ins C dx fs) ∧ fs.lookup m = none ∧
  t σ H1 fun vs H2 => sp (x :: (vs ++ dvs)) H2 Q (E σ)
section
variable {X : Cx} {k j : Nat} {C : Addr} {m : Str} {ps : List Str} {dvs : List V} {sp : Sp} {o e : Expr} {es : List Expr} {pos apos : Pos} {ta : TE} {t : TA} {pl : Sem Bool} {W : WX}
theorem pe_md (D : MDf X.prog X.w X.K X.mg X.base CX0 k C m ps dvs sp) (c : Cls X.K C) (hr : Room j X.A) (hk : k ≤ j) (he : PE X o ta) (ha : PA X (e :: es) t)
    (hst : starEach (e :: es) X.env = (false, eval e X.env) :: starEach es X.env := by rfl) (hpl : (backTo pos (starEach es X.env)).any (·.1) = false := by rfl)
    (ht : eval (.Call (.Attribute o m apos) (e :: es) [] pos) X.env = (do
      let ov ← eval o X.env; standAt apos.atName
      let (f, first) ← holding [ov] (getMethod ov m pl); callWith pos f first (backTo pos (starEach (e :: es) X.env)) (backToKw pos (keywordEach [] X.env))) := by rfl) :
    PE X (.Call (.Attribute o m apos) (e :: es) [] pos) (tMeth C m sp dvs E0 ta t) := by
  obtain ⟨f, fd, ds, F, hm, hb, hd⟩ := D.ex
  exact pe_meth he c hm F (hr.mono hk) hb hd pass0 ha hst hpl ht
theorem pe_md0 (D : MDf X.prog X.w X.K X.mg X.base CX0 k C m ps dvs sp) (c : Cls X.K C) (hr : Room j X.A) (hk : k ≤ j) (he : PE X o ta)
    (ht : eval (.Call (.Attribute o m apos) [] [] pos) X.env = (do
      let ov ← eval o X.env; standAt apos.atName
      let (f, first) ← holding [ov] (getMethod ov m pl); callWith pos f first (backTo pos (starEach [] X.env)) (backToKw pos (keywordEach [] X.env))) := by rfl) :
    PE X (.Call (.Attribute o m apos) [] [] pos) (tMeth C m sp dvs E0 ta tNil) := by
  obtain ⟨f, fd, ds, F, hm, hb, hd⟩ := D.ex
  exact pe_meth0 he c hm F (hr.mono hk) hb hd pass0 ht
theorem pe_mdX (D : MDf X.prog X.w X.K X.mg X.base (L2.CX X.prog X.w) k C m ps dvs sp) (c : Cls X.K C) (tk : Takes X W) (hr : Room j X.A) (hk : k ≤ j) (he : PE X o ta) (ha : PA X (e :: es) t)
    (hst : starEach (e :: es) X.env = (false, eval e X.env) :: starEach es X.env := by rfl) (hpl : (backTo pos (starEach es X.env)).any (·.1) = false := by rfl)
    (ht : eval (.Call (.Attribute o m apos) (e :: es) [] pos) X.env = (do
      let ov ← eval o X.env; standAt apos.atName
      let (f, first) ← holding [ov] (getMethod ov m pl); callWith pos f first (backTo pos (starEach (e :: es) X.env)) (backToKw pos (keywordEach [] X.env))) := by rfl) :
    PE X (.Call (.Attribute o m apos) (e :: es) [] pos) (tMethS C m sp dvs (WE W) ta t) := by
  obtain ⟨f, fd, ds, F, hm, hb, hd⟩ := D.ex
  refine ⟨fun pins s σ H Q I h => PySem.W.methodCall_KW (pl := pl) (thn (he.run pins s σ H _ I h) fun u s1 ⟨x, H1, I1, rx, a, dx, fs, ex, ea, l, q⟩ => ?_) ht⟩
  subst ex
  obtain rfl : u = Value.ref a := rx
  refine getmeth_ok I1 ea c hm l (PySem.W.callWith_K (first := [.ref a]) (h₀ := X.base) I1.ok.mod.kin hm.kp (thn (ha.run pos pins s1 σ H1 _ I1 q) fun us s2 ⟨vs, H2, I2, r, q2⟩ => ⟨I2.kIn, ?_⟩) hst hpl)
  exact run_fnSD (us := .ref a :: us) (vs := .ref a :: vs) F (hr.mono hk) hb hd (passAt tk σ) I2 (.cons rfl r) q2
theorem pe_mdX0 (D : MDf X.prog X.w X.K X.mg X.base (L2.CX X.prog X.w) k C m ps dvs sp) (c : Cls X.K C) (tk : Takes X W) (hr : Room j X.A) (hk : k ≤ j) (he : PE X o ta)
    (ht : eval (.Call (.Attribute o m apos) [] [] pos) X.env = (do
      let ov ← eval o X.env; standAt apos.atName
      let (f, first) ← holding [ov] (getMethod ov m pl); callWith pos f first (backTo pos (starEach [] X.env)) (backToKw pos (keywordEach [] X.env))) := by rfl) :
    PE X (.Call (.Attribute o m apos) [] [] pos) (tMethS C m sp dvs (WE W) ta tNil) := by
  obtain ⟨f, fd, ds, F, hm, hb, hd⟩ := D.ex
  refine ⟨fun pins s σ H Q I h => PySem.W.methodCall_KW (pl := pl) (thn (he.run pins s σ H _ I h) fun u s1 ⟨x, H1, I1, rx, a, dx, fs, ex, ea, l, q⟩ => ?_) ht⟩
  subst ex
  obtain rfl : u = Value.ref a := rx
  refine getmeth_ok I1 ea c hm l ?_
  exact PySem.W.callWith_K0 (first := [.ref a]) I1.kIn hm.kp (run_fnSD (us := [.ref a]) (vs := [.ref a]) F (hr.mono hk) hb hd (passAt tk σ) I1 (.cons rfl .nil) q)
end
/-- a property by its class -/
structure PDf (P : Program) (w : World) (K : PySem.W.Frag) (mg : Str → Option Value) (base : Heap) (k : Nat) (C : Addr) (f : Str) (sp : Sp) : Prop where
  ex : ∃ (p g : Addr) (fd : FuncData), PropOf K C f p g ∧ FnOk P w K mg base CX0 k g fd ["self"] sp ∧ Binds K fd ["self"] []
theorem pe_pd {X : Cx} {k j : Nat} {C : Addr} {f : Str} {sp : Sp} {e : Expr} {ta : TE} {pos : Pos} (D : PDf X.prog X.w X.K X.mg X.base k C f sp) (c : Cls X.K C) (hr : Room j X.A) (hk : k + 1 ≤ j) (he : PE X e ta)
    (hab : attributeBase e f X.env (eval e X.env) = eval e X.env := by rfl) : PE X (.Attribute e f pos) (tProp C sp [] E0 ta) := by
  obtain ⟨p, g, fd, hp, F, hb⟩ := D.ex
  exact pe_prop he c hp F (hr.mono hk) hb .nil pass0 hab
/-! ### own errors with fields -/
structure ErrC (K : PySem.W.Frag) (mg : Str → Option Value) (x : Str) (C fI : Addr) : Prop where
  gC : mg x = some (.ref C)
  ox : OexC K C
  xf : XfC K C
  iC : PySem.W.findIn K (.ref C) "__init__" = some (some (.ref fI))
  tI : PySem.W.typeIn K (.ref fI) = some (.type "function")
/-- __init__(self, v): the fields fs v are laid -/
def spErr (C : Addr) (fs : V → List (Str × V)) : Sp := fun vs H Q _ => ∃ (a : Addr) (v : V), vs = [.ref a, v] ∧ H a = some (exo a C none) ∧
  ∀ (d : Addr) (H' : Hp), H d = none → d ≠ a → H' a = some (exo a C (some d)) → H' d = some (exd d (fs v)) → (∀ b, b ≠ a → b ≠ d → H' b = H b) → Q .non H'
structure EDf (P : Program) (w : World) (K : PySem.W.Frag) (mg : Str → Option Value) (base : Heap) (k : Nat) (x : Str) (C : Addr) (p : Str) (fs : V → List (Str × V)) : Prop where
  ex : ∃ (fI : Addr) (fd : FuncData), ErrC K mg x C fI ∧ FnOk P w K mg base CX0 k fI fd ["self", p] (spErr C fs) ∧ Binds K fd ["self", p] []
def tMkE (C : Addr) (fs : V → List (Str × V)) (ta : TA) : L2.St → Hp → XK → Prop := tMkO C (spErr C fs) [] ta
theorem pmk_ed {X : Cx} {k j : Nat} {x q : Str} {C : Addr} {fs : V → List (Str × V)} {e : Expr} {ta : TA} {p pos : Pos} (D : EDf X.prog X.w X.K X.mg X.base k x C q fs) (kC : PySem.W.keepIn X.K (.ref C) = true) (hr : Room j X.A) (hk : k + 1 ≤ j) (hg : Gl X x) (ha : PA X [e] ta)
    (hdb : (x == ("__debug__" : Str)) = false := by decide) (he : starEach [e] X.env = (false, eval e X.env) :: starEach [] X.env := by rfl) (hpl : (backTo pos (starEach [] X.env)).any (·.1) = false := by rfl) :
    PMk X (.Call (.Name x p) [e] [] pos) (tMkE C fs ta) := by
  obtain ⟨fI, fd, T, F, hb⟩ := D.ex
  exact pmk_oex T.ox T.iC T.tI F (hr.mono hk) hb .nil pass0 hg T.gC ha hdb he hpl
theorem upd_del {H1 H2 : Hp} {a d : Addr} {o : HO} (ha : H1 a = none) (e : ∀ b, b ≠ a → b ≠ d → H2 b = H1 b) (hd : d ≠ a) : upd (del H2 a) d o = upd H1 d o := by
  funext b
  by_cases h1 : b = d
  · rw [h1, upd_same, upd_same]
  · rw [upd_ne h1, upd_ne h1]
    by_cases h2 : b = a
    · rw [h2, del_same, ha]
    · rw [del_ne h2]
      exact e b h2 h1
/-- what the making of such an error asks -/
theorem mke {C : Addr} {fs : V → List (Str × V)} {vs : List V} {H1 : Hp} {Q : XK} (v : V) (hv : vs = [v]) (h : ∀ d, H1 d = none → Q (.ref C) (some d) (upd H1 d (.xd (fs v)))) :
    vs.length ≤ 1000 ∧ ∀ a, H1 a = none → spErr C fs (.ref a :: (vs ++ [])) (upd H1 a (exo a C none))
      (fun v H2 => v = .non ∧ ∃ (d : Addr) (fs : List (Str × V)), H2 a = some (exo a C (some d)) ∧ H2 d = some (exd d fs) ∧ H1 d = none ∧ Q (.ref C) (some d) (upd (del H2 a) d (.xd fs))) (fun _ _ _ => False) := by
  subst hv
  refine ⟨by show 1 ≤ 1000; omega, fun a ha => ⟨a, v, rfl, upd_same, fun d H' hd hda e1 e2 e3 => ⟨rfl, d, fs v, e1, e2, ?_, ?_⟩⟩⟩
  · rw [upd_ne hda] at hd
    exact hd
  · rw [upd_ne hda] at hd
    rw [upd_del ha (fun b h1 h2 => by rw [e3 b h1 h2, upd_ne h1]) hda]
    exact h d hd
end IC
namespace IC
open PySem L2 TL
/-! ### a database in which nothing is written -/
abbrev dbf (pv : V) (b m h k : Addr) : List (Str × V) := [("_present", pv), ("_blocks", .ref b), ("_floor", .int 0), ("_made", .ref m), ("_held", .ref h), ("_kept", .ref k)]
abbrev trf (o s : Addr) (f : V) : List (Str × V) := [("own", .ref o), ("starts", .ref s), ("first", f)]
structure DbP where
  dx : Addr
  b : Addr
  m : Addr
  h : Addr
  k : Addr
structure TrP where
  dx : Addr
  o : Addr
  s : Addr
def DbAt (C : Addr) (H : Hp) (d : Addr) (p : DbP) (pv : V) (bs : List V) : Prop := H d = some (.ins C p.dx (dbf pv p.b p.m p.h p.k)) ∧ H p.b = some (.lst bs)
/-- a transaction of n levels, f the top one's first word -/
def TrAt (C : Addr) (H : Hp) (t : Addr) (p : TrP) (n : Nat) (f : V) : Prop := H t = some (.ins C p.dx (trf p.o p.s f)) ∧ H p.o = some (.lst []) ∧ H p.s = some (.lst (List.replicate n (.int 0))) ∧ p.o ≠ p.s
def oV : Option Str → V
  | none => .non
  | some w => .str w
/-- the present transaction: n levels, f the top one's first word; without one n = 0 -/
def PrAt (C : Addr) (H : Hp) (b : Addr) (pv : V) (n : Nat) (f : Option Str) : Prop := (n = 0 ∧ f = none ∧ pv = .non) ∨ (0 < n ∧ ∃ (t : Addr) (p : TrP), pv = .ref t ∧ TrAt C H t p n (oV f) ∧ p.o ≠ b ∧ p.s ≠ b)
inductive Ek where
  | miss : Ek
  | pres : Ek
  | doom : Str → Ek
  | noth : Ek
  | dooms : Ek
  | fresh : Ek
  | inner : Ek
def entF (z : Str) : Ek := if decide (V.str z = V.str "must") = true then .miss else if inV (.str z) [.str "either", .str "never", .str "outside"] = true then .noth else .fresh
def entP (f : Option Str) (z : Str) : Ek :=
  if inV (.str z) [.str "never", .str "alone"] = true then .pres else if inV (.str z) [.str "join", .str "must", .str "either"] = true then .dooms else if decide (V.str z = V.str "outside") = true then .noth else
  if decide (V.str z = V.str "apart") = true then .fresh else match f with
  | some w => .doom w
  | none => .inner
def ent (n : Nat) (f : Option Str) (z : Str) : Ek := if n = 0 then entF z else entP f z
abbrev fsM (v : V) : List (Str × V) := [("word", .str "missing"), ("mode", v)]
abbrev fsP (v : V) : List (Str × V) := [("word", .str "present"), ("mode", v)]
abbrev fsD (v : V) : List (Str × V) := [("word", .str "doomed"), ("first", v)]
structure Cs where
  D : Addr
  T : Addr
  M : Addr
  P : Addr
  O : Addr
/-- an error goes out: nothing that stood has changed -/
def ErrQ (C : Addr) (fs : List (Str × V)) (H : Hp) (E : XK) : Prop := ∀ (x : Addr) (H' : Hp), Same H H' → H' x = some (.xd fs) → E (.ref C) (some x) H'
def FrQ (c : Cs) (H : Hp) (d : Addr) (p : DbP) (bs : List V) (z : Str) (Q : VK) (E : XK) : Ek → Prop
  | .miss => ErrQ c.M (fsM (.str z)) H E
  | .noth => ∀ H', Same H H' → Q (.str "nothing") H'
  | .fresh => ∀ (H' : Hp) (t : Addr) (q : TrP), Kp [d] H H' → H t = none → H q.o = none → H q.s = none → TrAt c.T H' t q 1 .non → DbAt c.D H' d p (.ref t) bs → Q (.str "ends") H'
  | _ => True
def spFree (c : Cs) : Sp := fun vs H Q E => ∃ (d : Addr) (p : DbP) (bs : List V) (z : Str), vs = [.ref d, .str z] ∧ DbAt c.D H d p .non bs ∧ FrQ c H d p bs z Q E (entF z)
def PsQ (c : Cs) (H : Hp) (d : Addr) (p : DbP) (bs : List V) (z : Str) (t : Addr) (q : TrP) (n : Nat) (Q : VK) (E : XK) : Ek → Prop
  | .pres => ErrQ c.P (fsP (.str z)) H E
  | .doom w => ErrQ c.O (fsD (.str w)) H E
  | .noth => ∀ H', Kp [d] H H' → DbAt c.D H' d p .non bs → Q (.str "nothing") H'
  | .dooms => ∀ H', Same H H' → Q (.str "dooms") H'
  | .fresh => ∀ (H' : Hp) (t : Addr) (q : TrP), Kp [d] H H' → H t = none → H q.o = none → H q.s = none → TrAt c.T H' t q 1 .non → DbAt c.D H' d p (.ref t) bs → Q (.str "ends") H'
  | .inner => ∀ H', Kp [q.s] H H' → TrAt c.T H' t q (n + 1) .non → Q (.str "ends") H'
  | _ => True
def spPres (c : Cs) : Sp := fun vs H Q E => ∃ (d : Addr) (p : DbP) (bs : List V) (z : Str) (t : Addr) (q : TrP) (n : Nat) (f : Option Str), vs = [.ref d, .str z, .ref t] ∧ DbAt c.D H d p (.ref t) bs ∧ TrAt c.T H t q n (oV f) ∧ n ≤ 1000 ∧ PsQ c H d p bs z t q n Q E (entP f z)
def EnQ (c : Cs) (H : Hp) (d : Addr) (p : DbP) (bs : List V) (z : Str) (pv : V) (n : Nat) (Q : VK) (E : XK) : Ek → Prop
  | .miss => ErrQ c.M (fsM (.str z)) H E
  | .pres => ErrQ c.P (fsP (.str z)) H E
  | .doom w => ErrQ c.O (fsD (.str w)) H E
  | .noth => ∀ (H' : Hp) (y : Addr), Kp [d, p.b] H H' → DbAt c.D H' d p .non (bs ++ [.ref y]) → H' y = some (.tup [.str "nothing", pv]) → Q .non H'
  | .dooms => ∀ (H' : Hp) (y : Addr), Kp [p.b] H H' → DbAt c.D H' d p pv (bs ++ [.ref y]) → H' y = some (.tup [.str "dooms", pv]) → Q .non H'
  | .fresh => ∀ (H' : Hp) (y t : Addr) (q : TrP), Kp [d, p.b] H H' → H t = none → H q.o = none → H q.s = none → TrAt c.T H' t q 1 .non → DbAt c.D H' d p (.ref t) (bs ++ [.ref y]) → H' y = some (.tup [.str "ends", pv]) → Q .non H'
  | .inner => ∀ (H' : Hp) (y t : Addr) (q : TrP), pv = .ref t → TrAt c.T H t q n .non → q.o ≠ p.b → q.s ≠ p.b → Kp [p.b, q.s] H H' → TrAt c.T H' t q (n + 1) .non → DbAt c.D H' d p pv (bs ++ [.ref y]) → H' y = some (.tup [.str "ends", pv]) → Q .non H'
def spEnter (c : Cs) : Sp := fun vs H Q E => ∃ (d : Addr) (p : DbP) (bs : List V) (z : Str) (pv : V) (n : Nat) (f : Option Str), vs = [.ref d, .str z] ∧ z ∈ modesS ∧ DbAt c.D H d p pv bs ∧ PrAt c.T H p.b pv n f ∧ bs.length ≤ 1000 ∧ n ≤ 1000 ∧ EnQ c H d p bs z pv n Q E (ent n f z)
def spTrInit (c : Cs) : Sp := fun vs H Q _ => ∃ (t dx : Addr), vs = [.ref t] ∧ H t = some (.ins c.T dx []) ∧ ∀ (H' : Hp) (o s : Addr), Kp [t] H H' → H o = none → H s = none → TrAt c.T H' t ⟨dx, o, s⟩ 1 .non → Q .non H'
def spTrDoom (c : Cs) : Sp := fun vs H Q _ => ∃ (t : Addr) (q : TrP) (n : Nat) (f : Option Str) (w : Str), vs = [.ref t, .str w] ∧ TrAt c.T H t q n (oV f) ∧ ∀ H', Kp [t] H H' → TrAt c.T H' t q n (oV (match f with | none => some w | some u => some u)) → Q .non H'
def spDbInit (c : Cs) : Sp := fun vs H Q _ => ∃ (d dx : Addr), vs = [.ref d] ∧ H d = some (.ins c.D dx []) ∧ ∀ (H' : Hp) (b m h k : Addr), Kp [d] H H' → H b = none → DbAt c.D H' d ⟨dx, b, m, h, k⟩ .non [] → Q .non H'
/-- a property that only looks -/
def spGet (c : Cs) (g : Nat → Option Str → Nat → V) : Sp := fun vs H Q _ => ∃ (d : Addr) (p : DbP) (bs : List V) (pv : V) (n : Nat) (f : Option Str), vs = [.ref d] ∧ DbAt c.D H d p pv bs ∧ PrAt c.T H p.b pv n f ∧ bs.length ≤ 1000 ∧ n ≤ 1000 ∧ Q (g n f bs.length) H
def spDbDoom (c : Cs) (K : PySem.W.Frag) : Sp := fun vs H Q _ => ∃ (d : Addr) (p : DbP) (bs : List V) (pv : V) (n : Nat) (f : Option Str) (w : Str), vs = [.ref d, .str w] ∧ IsW w ∧ DbAt c.D H d p pv bs ∧ PrAt c.T H p.b pv n f ∧
  ((n = 0 ∧ ∀ H', Same H H' → Q .non H') ∨ (0 < n ∧ ∀ (H' : Hp) (t : Addr) (q : TrP), pv = .ref t → TrAt c.T H t q n (oV f) → Kp [t] H H' → TrAt c.T H' t q n (oV (match f with | none => some w | some u => some u)) → Q .non H'))
def LvQ (c : Cs) (H : Hp) (d : Addr) (p : DbP) (bs : List V) (eff : Str) (bv pv : V) (r : V) (Q : VK) : Prop :=
  ((eff = "nothing" ∨ eff = "dooms") ∧ ∀ H', Kp [d, p.b] H H' → DbAt c.D H' d p bv bs → Q r H') ∨
  (eff = "ends" ∧ ∃ (t : Addr) (q : TrP) (n : Nat), pv = .ref t ∧ n ≤ 1000 ∧ q.o ≠ p.b ∧ q.s ≠ p.b ∧ TrAt c.T H t q (n + 1) .non ∧ ∀ H', Kp [d, p.b, t, q.s] H H' → DbAt c.D H' d p bv bs → TrAt c.T H' t q n .non → Q r H')
def spEndBlock (c : Cs) : Sp := fun vs H Q _ => ∃ (d : Addr) (p : DbP) (bs : List V) (y : Addr) (eff : Str) (bv pv : V), vs = [.ref d, .non, .bl true] ∧ DbAt c.D H d p pv (bs ++ [.ref y]) ∧ H y = some (.tup [.str eff, bv]) ∧ bs.length ≤ 1000 ∧ LvQ c H d p bs eff bv pv (.str "") Q
def spLeave (c : Cs) : Sp := fun vs H Q _ => ∃ (d : Addr) (p : DbP) (bs : List V) (y : Addr) (eff : Str) (bv pv : V) (n : Nat) (f : Option Str), vs = [.ref d, .non, .bl true] ∧ DbAt c.D H d p pv (bs ++ [.ref y]) ∧ PrAt c.T H p.b pv n f ∧ n ≤ 1000 ∧ H y = some (.tup [.str eff, bv]) ∧ bs.length ≤ 900 ∧ LvQ c H d p bs eff bv pv .non Q
def spEndLevel (c : Cs) : Sp := fun vs H Q _ => ∃ (d t : Addr) (p : DbP) (pv : V) (bs : List V) (q : TrP) (n : Nat), vs = [.ref d, .ref t, .non, .bl true] ∧ n ≤ 1000 ∧ DbAt c.D H d p pv bs ∧ q.s ≠ p.b ∧ TrAt c.T H t q (n + 1) .non ∧ ∀ H', Kp [t, q.s] H H' → TrAt c.T H' t q n .non → Q (.str "") H'
def spKeep (c : Cs) : Sp := fun vs H Q _ => ∃ (d t : Addr) (q : TrP) (f : V) (n : Nat), vs = [.ref d, .ref t] ∧ TrAt c.T H t q n f ∧ Q .non H
/-- what the text says of the classes and constants -/
structure DbTxt (K : PySem.W.Frag) (mg : Str → Option Value) (c : Cs) : Prop where
  cD : Cls K c.D
  cT : Cls K c.T
  nP : NoAttr K c.D "_present"
  nB : NoAttr K c.D "_blocks"
  nF : NoAttr K c.D "_floor"
  nM : NoAttr K c.D "_made"
  nH : NoAttr K c.D "_held"
  nK : NoAttr K c.D "_kept"
  nO : NoAttr K c.T "own"
  nS : NoAttr K c.T "starts"
  n1 : NoAttr K c.T "first"
  gE : ∃ u, mg "ENDS" = some u ∧ RelV (.str "ends") u
  gD : ∃ u, mg "DOOMS" = some u ∧ RelV (.str "dooms") u
  gN : ∃ u, mg "NOTHING" = some u ∧ RelV (.str "nothing") u
theorem pe_gv {X : Cx} {x : Str} {v : V} {pos : Pos} (h : ∃ u, X.mg x = some u ∧ RelV v u) (hg : Gl X x) (hdb : (x == ("__debug__" : Str)) = false := by decide) : PE X (.Name x pos) (tC v) := by
  obtain ⟨u, e, r⟩ := h
  exact pe_glob hg e r hdb
/-- a class that is made without arguments -/
structure CDf (P : Program) (w : World) (K : PySem.W.Frag) (mg : Str → Option Value) (base : Heap) (k : Nat) (x : Str) (C : Addr) (sp : Sp) : Prop where
  ex : ∃ (f : Addr) (fd : FuncData), Mk K C f ∧ FnOk P w K mg base CX0 k f fd ["self"] sp ∧ Binds K fd ["self"] [] ∧ mg x = some (.ref C)
theorem pe_mk0 {X : Cx} {k j : Nat} {x : Str} {C : Addr} {sp : Sp} {p pos : Pos} (D : CDf X.prog X.w X.K X.mg X.base k x C sp) (hr : Room j X.A) (hk : k + 1 ≤ j) (hg : Gl X x) (hdb : (x == ("__debug__" : Str)) = false := by decide) :
    PE X (.Call (.Name x p) [] [] pos) (tMake C sp [] E0 tNil) := by
  obtain ⟨f, fd, M, F, hb, hm⟩ := D.ex
  exact pe_make0 M F (hr.mono hk) hg hm hb .nil pass0 hdb
/-- Transaction(): what its making asks -/
theorem mk_tr {c : Cs} {H : Hp} {R : VK} {x dx : Addr} (nx : H x = none) (nd : H dx = none) (_ne : dx ≠ x) (h : ∀ (H' : Hp) (q : TrP), Same H H' → H q.o = none → H q.s = none → TrAt c.T H' x q 1 .non → R .non H') :
    spTrInit c [.ref x] (upd (upd H dx (.own x)) x (.ins c.T dx [])) R E0 := by
  refine ⟨x, dx, rfl, upd_same, fun H' o s kp no ns tr => h H' ⟨dx, o, s⟩ (fun b u e => ?_) ?_ ?_ tr⟩
  · have n1 := ne_of_none e nx
    exact kp b u (by rw [upd_ne n1, upd_ne (ne_of_none e nd)]; exact e) (by simpa using n1)
  · exact (none_of (none_of no).2).2
  · exact (none_of (none_of ns).2).2
theorem DbAt.mv {C : Addr} {H H' : Hp} {d : Addr} {p : DbP} {pv : V} {bs : List V} {l : List Addr} (h : DbAt C H d p pv bs) (k : Kp l H H') (n1 : d ∉ l) (n2 : p.b ∉ l) : DbAt C H' d p pv bs := ⟨k _ _ h.1 n1, k _ _ h.2 n2⟩
theorem DbAt.same {C : Addr} {H H' : Hp} {d : Addr} {p : DbP} {pv : V} {bs : List V} (h : DbAt C H d p pv bs) (k : Same H H') : DbAt C H' d p pv bs := ⟨k _ _ h.1, k _ _ h.2⟩
theorem TrAt.mv {C : Addr} {H H' : Hp} {t : Addr} {q : TrP} {n : Nat} {f : V} {l : List Addr} (h : TrAt C H t q n f) (k : Kp l H H') (n1 : t ∉ l) (n2 : q.o ∉ l) (n3 : q.s ∉ l) : TrAt C H' t q n f := ⟨k _ _ h.1 n1, k _ _ h.2.1 n2, k _ _ h.2.2.1 n3, h.2.2.2⟩
theorem TrAt.same {C : Addr} {H H' : Hp} {t : Addr} {q : TrP} {n : Nat} {f : V} (h : TrAt C H t q n f) (k : Same H H') : TrAt C H' t q n f := ⟨k _ _ h.1, k _ _ h.2.1, k _ _ h.2.2.1, h.2.2.2⟩
theorem PrAt.same {C : Addr} {H H' : Hp} {b : Addr} {pv : V} {n : Nat} {f : Option Str} (h : PrAt C H b pv n f) (k : Same H H') : PrAt C H' b pv n f := by
  rcases h with h | ⟨h0, t, q, e, tr, h1, h2⟩
  · exact .inl h
  · exact .inr ⟨h0, t, q, e, tr.same k, h1, h2⟩
/-- the places of a database and of a transaction differ -/
theorem DbAt.dt {C T : Addr} {H : Hp} {d t : Addr} {p : DbP} {q : TrP} {pv f : V} {bs : List V} {n : Nat} (h : DbAt C H d p pv bs) (g : TrAt T H t q n f) : t ≠ d ∧ q.o ≠ d ∧ q.s ≠ d ∧ t ≠ p.b ∧ q.o ≠ t ∧ q.s ≠ t := by
  refine ⟨fun e => ?_, fun e => ?_, fun e => ?_, fun e => ?_, fun e => ?_, fun e => ?_⟩
  · have z := g.1
    rw [e, h.1] at z
    injection z with z
    injection z with _ _ z
    exact absurd (congrArg List.length z) (by show ¬ (6 = 3); decide)
  · have z := g.2.1
    rw [e, h.1] at z
    cases z
  · have z := g.2.2.1
    rw [e, h.1] at z
    cases z
  · have z := g.1
    rw [e, h.2] at z
    cases z
  · have z := g.2.1
    rw [e, g.1] at z
    cases z
  · have z := g.2.2.1
    rw [e, g.1] at z
    cases z
theorem DbAt.db {C : Addr} {H : Hp} {d : Addr} {p : DbP} {pv : V} {bs : List V} (h : DbAt C H d p pv bs) : p.b ≠ d := fun e => by
  have z := h.2
  rw [e, h.1] at z
  cases z
theorem Kp.sub {l m : List Addr} {H H' : Hp} (k : Kp l H H') (h : ∀ x, x ∈ l → x ∈ m) : Kp m H H' := fun b o e n => k b o e fun z => n (h b z)
theorem mode_in {z : Str} (h : z ∈ modesS) : inV (.str z) modesV = true := by
  simp only [modesS, List.mem_cons, List.not_mem_nil, or_false] at h
  rcases h with rfl | rfl | rfl | rfl | rfl | rfl | rfl | rfl <;> decide +kernel
/-- a block is put on -/
theorem put_block {C : Addr} {H : Hp} {d y : Addr} {p : DbP} {pv : V} {bs ts : List V} (h : DbAt C H d p pv bs) (ny : H y = none) :
    DbAt C (upd (upd H y (.tup ts)) p.b (.lst (bs ++ [.ref y]))) d p pv (bs ++ [.ref y]) ∧ upd (upd H y (.tup ts)) p.b (.lst (bs ++ [.ref y])) y = some (.tup ts) ∧ Kp [p.b] H (upd (upd H y (.tup ts)) p.b (.lst (bs ++ [.ref y]))) :=
  ⟨⟨by rw [upd_ne h.db.symm, upd_ne (ne_of_none h.1 ny)]; exact h.1, upd_same⟩, by rw [upd_ne (ne_of_none h.2 ny).symm, upd_same], (Kp.new ny).mutAt (List.mem_singleton.mpr rfl)⟩
theorem wB_of {z : Str} (h : IsW z) : wB z = true := by
  obtain ⟨h1, h2, h3⟩ := h
  unfold wB
  rw [decide_eq_true h1, decide_eq_true h2]
  show (tl z).all lB = true
  rw [List.all_eq_true]
  intro x hx
  have q := h3 x hx
  unfold lB
  rw [decide_eq_true q.1, decide_eq_true q.2]
  rfl
end IC
namespace IC
open PySem L2 TL
/-! ### the law's own stack: of its last list alone is spoken -/
def StAt (H : Hp) (b sa : Addr) (l : List (Option Str)) (m : Nat) : Prop := ∃ (xs : List V) (r : Addr), H sa = some (.lst (xs ++ [.ref r])) ∧ H r = some (.lst (l.map oV)) ∧ xs.length ≤ m ∧ sa ≠ b ∧ r ≠ b
theorem StAt.same {H H' : Hp} {b sa : Addr} {l : List (Option Str)} {m : Nat} (h : StAt H b sa l m) (s : Same H H') : StAt H' b sa l m := by
  obtain ⟨xs, r, h1, h2, h3⟩ := h
  exact ⟨xs, r, s _ _ h1, s _ _ h2, h3⟩
theorem StAt.up {H : Hp} {b sa : Addr} {l : List (Option Str)} {m m' : Nat} (h : StAt H b sa l m) (e : m ≤ m') : StAt H b sa l m' := by
  obtain ⟨xs, r, h1, h2, h3, h4⟩ := h
  exact ⟨xs, r, h1, h2, Nat.le_trans h3 e, h4⟩
def lastO (l : List (Option Str)) : Option Str := match l.getLast? with
  | some (some w) => some w
  | _ => none
theorem lastO_app (ls : List (Option Str)) (f : Option Str) : lastO (ls ++ [f]) = f := by
  unfold lastO
  rw [List.getLast?_append, List.getLast?_singleton]
  cases f <;> rfl
def topOf (k : Ek) (l : List (Option Str)) : List (Option Str) := match k with
  | .noth => []
  | .fresh => [none]
  | .inner => l ++ [none]
  | _ => l
def errOf (k : Ek) (z : Str) : Option (Str × Str) := match k with
  | .miss => some ("missing", z)
  | .pres => some ("present", z)
  | .doom w => some ("doomed", w)
  | _ => none
def RetE (H : Hp) (ev : V) (o : Option (Str × Str)) : Prop := match o with
  | none => ev = .non
  | some (a, b) => ∃ e, ev = .ref e ∧ H e = some (.tup [.str a, .str b])
def OkL (l : List (Option Str)) : Prop := ∀ w, some w ∈ l → IsW w
def dO : Option Str → PyData
  | none => .none
  | some w => .str w
theorem dpAll_o {K : PySem.W.Frag} {H : Hp} : ∀ l : List (Option Str), DpAll K H (l.map oV) (l.map dO)
  | [] => .nil
  | none :: r => .cons .non (dpAll_o r)
  | some w :: r => .cons (.str w) (dpAll_o r)
theorem okW {w : Str} (h : IsW w) : PyData.strOk w = true := strOk_of fun c hc => (h.2.2 c hc).ok
theorem shaped_o {l : List (Option Str)} (h : OkL l) : SeqAt.shaped (.list (l.map dO)) = true := shaped_list fun x hx => by
  obtain ⟨f, hf, rfl⟩ := List.mem_map.mp hx
  cases f with
  | none => exact ⟨rfl, Nat.zero_le _⟩
  | some w => exact ⟨okW (h w hf), Nat.zero_le _⟩
theorem cut_last (xs : List V) (v : V) : cutV (xs ++ [v]) none (some (-1)) = xs := by
  unfold cutV
  have e1 : HT.sIx (xs ++ [v]).length 0 none = 0 := rfl
  have e2 : HT.sIx (xs ++ [v]).length (xs ++ [v]).length (some (-1)) = xs.length := by
    unfold HT.sIx
    simp
    omega
  rw [e1, e2]
  simp
def spEntered : Sp := fun vs H Q _ => ∃ (sa b : Addr) (z : Str) (l : List (Option Str)) (m : Nat), vs = [.ref sa, .str z] ∧ z ∈ modesS ∧ StAt H b sa l m ∧ H b ≠ none ∧ m ≤ 500 ∧ l.length ≤ 500 ∧ OkL l ∧
  ∀ (H' : Hp) (y sa' : Addr) (ev : V), Same H H' → RetE H' ev (errOf (ent l.length (lastO l) z) z) → H' y = some (.tup [ev, .ref sa']) → StAt H' b sa' (topOf (ent l.length (lastO l) z) l) (m + 1) → Q (.ref y) H'
def spLawEnter (c : Cs) : Sp := fun vs H Q _ => ∃ (d : Addr) (p : DbP) (bs : List V) (z : Str) (uP : V) (n : Nat) (f : Option Str), vs = [.ref d, .str z] ∧ z ∈ modesS ∧ DbAt c.D H d p uP bs ∧ PrAt c.T H p.b uP n f ∧ bs.length ≤ 1000 ∧ n ≤ 1000 ∧
  (∀ a b, errOf (ent n f z) z = some (a, b) → ∀ (H' : Hp) (e : Addr), Same H H' → H' e = some (.tup [.str a, .str b]) → Q (.ref e) H') ∧
  (errOf (ent n f z) z = none → EnQ c H d p bs z uP n (fun _ H' => Q .non H') E0 (ent n f z))
def spShows (c : Cs) : Sp := fun vs H Q _ => ∃ (d sa b : Addr) (p : DbP) (bs : List V) (uP : V) (l : List (Option Str)) (m : Nat), vs = [.ref d, .ref sa, .int bs.length] ∧ DbAt c.D H d p uP bs ∧ PrAt c.T H p.b uP l.length (lastO l) ∧ StAt H b sa l m ∧ OkL l ∧ bs.length ≤ 1000 ∧ l.length ≤ 500 ∧
  ∀ H', Same H H' → Q (.bl true) H'
end IC
namespace IC
open PySem L2 TL
/-! ### the law's state -/
def TrS (c : Cs) (H0 H1 : Hp) (p b : Addr) (uP : V) (l : List (Option Str)) : Prop :=
  (l = [] ∧ uP = .non) ∨ (l ≠ [] ∧ ∃ (t : Addr) (q : TrP), uP = .ref t ∧ TrAt c.T H1 t q l.length (oV (lastO l)) ∧ q.o ≠ b ∧ q.s ≠ b ∧ H0 t = none ∧ H0 q.s = none ∧ q.o ≠ p ∧ q.s ≠ p)
structure LawSt (c : Cs) (H0 H1 : Hp) (p d : Addr) (q : DbP) (uP : V) (bs : List V) (sa : Addr) (l : List (Option Str)) (m : Nat) (n : Int) : Prop where
  s : Same H0 H1
  pool : PoolAt H1 p n
  db : DbAt c.D H1 d q uP bs
  st : StAt H1 q.b sa l m
  ok : OkL l
  p0 : H0 p = none
  d0 : H0 d = none
  b0 : H0 q.b = none
  pb : p ≠ q.b
  tr : TrS c H0 H1 p q.b uP l
theorem TrS.pr {c : Cs} {H0 H1 : Hp} {p b : Addr} {uP : V} {l : List (Option Str)} (h : TrS c H0 H1 p b uP l) : PrAt c.T H1 b uP l.length (lastO l) := by
  rcases h with ⟨rfl, rfl⟩ | ⟨nl, t, q, e, tr, h1, h2, _⟩
  · exact .inl ⟨rfl, rfl, rfl⟩
  · exact .inr ⟨List.length_pos_iff.mpr nl, t, q, e, tr, h1, h2⟩
theorem TrAt.inj {C : Addr} {H : Hp} {t : Addr} {q q' : TrP} {n n' : Nat} {f f' : V} (h : TrAt C H t q n f) (h' : TrAt C H t q' n' f') : q = q' ∧ f = f' := by
  have z := h.1
  rw [h'.1] at z
  injection z with z
  injection z with _ z1 z2
  obtain ⟨a, o, s⟩ := q
  obtain ⟨a', o', s'⟩ := q'
  simp only [trf, List.cons.injEq, Prod.mk.injEq, V.ref.injEq, true_and, and_true] at z1 z2
  obtain ⟨e1, e2, e3⟩ := z2
  exact ⟨by rw [z1, e1, e2], e3.symm⟩
/-- an address that is none of the law's own lists -/
def Nst (H : Hp) (b x : Addr) : Prop := x = b ∨ H x = none ∨ (∃ C dx fs, H x = some (.ins C dx fs)) ∨ (∃ k, H x = some (.lst (List.replicate (k + 1) (.int 0)))) ∨ ∃ a b c, H x = some (.lst (pl a b c))
theorem StAt.mv {H H' : Hp} {b sa : Addr} {l : List (Option Str)} {m : Nat} {L : List Addr} (h : StAt H b sa l m) (k : Kp L H H') (n : ∀ x, x ∈ L → Nst H b x) : StAt H' b sa l m := by
  obtain ⟨xs, r, h1, h2, h3, h4, h5⟩ := h
  refine ⟨xs, r, k _ _ h1 fun hx => ?_, k _ _ h2 fun hx => ?_, h3, h4, h5⟩
  · rcases n _ hx with e | e | ⟨C, dx, fs, e⟩ | ⟨j, e⟩ | ⟨a, b', c', e⟩
    · exact h4 e
    · rw [h1] at e
      cases e
    · rw [h1] at e
      cases e
    · rw [h1] at e
      injection e with e
      injection e with e
      have z : V.ref r ∈ List.replicate (j + 1) (V.int 0) := by rw [← e]; simp
      have z2 := List.eq_of_mem_replicate z
      cases z2
    · rw [h1] at e
      injection e with e
      injection e with e
      have z : V.ref r ∈ pl a b' c' := by rw [← e]; simp
      simp [pl] at z
  · rcases n _ hx with e | e | ⟨C, dx, fs, e⟩ | ⟨j, e⟩ | ⟨a, b', c', e⟩
    · exact h5 e
    · rw [h2] at e
      cases e
    · rw [h2] at e
      cases e
    · rw [h2] at e
      injection e with e
      injection e with e
      have z : V.int 0 ∈ l.map oV := by rw [e, List.replicate_succ]; exact List.mem_cons_self
      obtain ⟨f, _, z2⟩ := List.mem_map.mp z
      cases f <;> cases z2
    · rw [h2] at e
      injection e with e
      injection e with e
      have z : V.int a ∈ l.map oV := by rw [e]; exact List.mem_cons_self
      obtain ⟨f, _, z2⟩ := List.mem_map.mp z
      cases f <;> cases z2
theorem same_mv {H0 H1 H2 : Hp} {L : List Addr} (s : Same H0 H1) (k : Kp L H1 H2) (n : ∀ x, x ∈ L → H0 x = none) : Same H0 H2 := fun b o e => k b o (s b o e) fun hx => by
  rw [n b hx] at e
  cases e
theorem pool_mv {H1 H2 : Hp} {p : Addr} {n : Int} {L : List Addr} (h : PoolAt H1 p n) (k : Kp L H1 H2) (np : p ∉ L) : PoolAt H2 p n := h.mv fun o e => k _ _ e np
section
variable {c : Cs} {H0 H1 H2 : Hp} {p d sa : Addr} {q : DbP} {uP : V} {bs : List V} {l : List (Option Str)} {m : Nat} {n n' : Int}
theorem LawSt.pd (S : LawSt c H0 H1 p d q uP bs sa l m n) : p ≠ d := fun e => by
  obtain ⟨a, b, c', z, _⟩ := S.pool
  rw [e, S.db.1] at z
  cases z
theorem LawSt.pt (S : LawSt c H0 H1 p d q uP bs sa l m n) {t : Addr} {C dx : Addr} {fs : List (Str × V)} (h : H1 t = some (.ins C dx fs)) : p ≠ t := fun e => by
  obtain ⟨a, b, c', z, _⟩ := S.pool
  rw [e, h] at z
  cases z
theorem LawSt.same (S : LawSt c H0 H1 p d q uP bs sa l m n) (s : Same H1 H2) : LawSt c H0 H2 p d q uP bs sa l m n := by
  refine ⟨S.s.trans s, S.pool.mv fun o e => s _ _ e, S.db.same s, S.st.same s, S.ok, S.p0, S.d0, S.b0, S.pb, ?_⟩
  rcases S.tr with h | ⟨nl, t, g, e, tr, h⟩
  · exact .inl h
  · exact .inr ⟨nl, t, g, e, tr.same s, h⟩
/-- the pool goes on -/
theorem LawSt.draw (S : LawSt c H0 H1 p d q uP bs sa l m n) (k : Kp [p] H1 H2) (h : PoolAt H2 p n') : LawSt c H0 H2 p d q uP bs sa l m n' := by
  have np : ∀ {x : Addr}, x ≠ p → x ∉ [p] := fun h => by simpa using h
  refine ⟨same_mv S.s k (by simpa using S.p0), h, S.db.mv k (np S.pd.symm) (np S.pb.symm), S.st.mv k fun x hx => ?_, S.ok, S.p0, S.d0, S.b0, S.pb, ?_⟩
  · obtain ⟨a, b, c', z, _⟩ := S.pool
    rw [List.mem_singleton.mp hx]
    exact .inr (.inr (.inr (.inr ⟨a, b, c', z⟩)))
  · rcases S.tr with h | ⟨nl, t, g, e, tr, h1, h2, h3, h4, h5, h6⟩
    · exact .inl h
    · exact .inr ⟨nl, t, g, e, tr.mv k (np (S.pt tr.1).symm) (np h5) (np h6), h1, h2, h3, h4, h5, h6⟩
/-- all that stood, back behind a block -/
theorem LawSt.back (S : LawSt c H0 H1 p d q uP bs sa l m n) {L : List Addr} (k : Kp L H1 H2) (hL : ∀ x, x ∈ L → x = d ∨ x = q.b ∨ H1 x = none) (db : DbAt c.D H2 d q uP bs) : LawSt c H0 H2 p d q uP bs sa l m n := by
  have k2 : Kp [d, q.b] H1 H2 := fun x o e nx => k x o e fun hx => by
    rcases hL x hx with z | z | z
    · exact nx (by simp [z])
    · exact nx (by simp [z])
    · rw [z] at e
      cases e
  refine ⟨same_mv S.s k2 (by simpa using ⟨S.d0, S.b0⟩), pool_mv S.pool k2 (by simpa using ⟨S.pd, S.pb⟩), db, S.st.mv k2 ?_, S.ok, S.p0, S.d0, S.b0, S.pb, ?_⟩
  · intro x hx
    have hx : x = d ∨ x = q.b := by simpa using hx
    rcases hx with rfl | rfl
    · exact .inr (.inr (.inl ⟨_, _, _, S.db.1⟩))
    · exact .inl rfl
  · rcases S.tr with h | ⟨nl, t, g, e, tr, h1, h2, h3⟩
    · exact .inl h
    · have dt := S.db.dt tr
      exact .inr ⟨nl, t, g, e, tr.mv k2 (by simpa using ⟨dt.1, dt.2.2.2.1⟩) (by simpa using ⟨dt.2.1, h1⟩) (by simpa using ⟨dt.2.2.1, h2⟩), h1, h2, h3⟩
/-- what leaving the block y gives back -/
def Back (c : Cs) (H0 H2 : Hp) (p d : Addr) (q : DbP) (uP' uP : V) (bs : List V) (y sa : Addr) (l : List (Option Str)) (m : Nat) (n : Int) : Prop :=
  ∃ eff : Str, H2 y = some (.tup [.str eff, uP]) ∧ ∀ R : VK, (∀ H3, LawSt c H0 H3 p d q uP bs sa l m n → R .non H3) → LvQ c H2 d q bs eff uP uP' .non R
theorem LvQ.same {eff : Str} {bv pw r : V} {R : VK} {H4 : Hp} (h : LvQ c H1 d q bs eff bv pw r R) (s : Same H1 H4) : LvQ c H4 d q bs eff bv pw r R := by
  rcases h with ⟨he, k⟩ | ⟨he, t, g, j, e, hj, h1, h2, tr, k⟩
  · exact .inl ⟨he, fun H' kp db => k H' ((Kp.same s).trans kp) db⟩
  · exact .inr ⟨he, t, g, j, e, hj, h1, h2, tr.same s, fun H' kp db tr' => k H' ((Kp.same s).trans kp) db tr'⟩
theorem Back.same {uP' : V} {y : Addr} {H4 : Hp} (h : Back c H0 H2 p d q uP' uP bs y sa l m n) (s : Same H2 H4) : Back c H0 H4 p d q uP' uP bs y sa l m n := by
  obtain ⟨eff, hy, k⟩ := h
  exact ⟨eff, s _ _ hy, fun R hR => (k R hR).same s⟩
theorem enter_st {z : Str} {k : Ek} {sa' : Addr} {Q : VK} (S : LawSt c H0 H1 p d q uP bs sa l m n) (st' : StAt H1 q.b sa' (topOf k l) (m + 1)) (hk : errOf k z = none) (hl : l.length ≤ 1000)
    (fin : ∀ (H2 : Hp) (uP' : V) (y : Addr), LawSt c H0 H2 p d q uP' (bs ++ [.ref y]) sa' (topOf k l) (m + 1) n → Back c H0 H2 p d q uP' uP bs y sa l m n → Q .non H2) : EnQ c H1 d q bs z uP l.length Q E0 k := by
  have nb : ∀ {x : Addr}, H1 x = none → x ≠ q.b := fun e z => by
    rw [z, S.db.2] at e
    cases e
  have np : ∀ {x : Addr}, H1 x = none → x ≠ p := fun e z => by
    obtain ⟨a, b, c', h, _⟩ := S.pool
    rw [z, h] at e
    cases e
  cases k with
  | miss => cases hk
  | pres => cases hk
  | doom w => cases hk
  | noth =>
    intro H2 y kp db hy
    have nst : ∀ x, x ∈ [d, q.b] → Nst H1 q.b x := fun x hx => by
      have hx : x = d ∨ x = q.b := by simpa using hx
      rcases hx with rfl | rfl
      · exact .inr (.inr (.inl ⟨_, _, _, S.db.1⟩))
      · exact .inl rfl
    refine fin H2 _ y ⟨same_mv S.s kp (by simpa using ⟨S.d0, S.b0⟩), pool_mv S.pool kp (by simpa using ⟨S.pd, S.pb⟩), db, st'.mv kp nst, fun w hw => (by cases hw), S.p0, S.d0, S.b0, S.pb, .inl ⟨rfl, rfl⟩⟩ ⟨_, hy, fun R hR => .inl ⟨.inl rfl, fun H3 kp3 db3 => hR H3 ?_⟩⟩
    exact S.back (kp.trans kp3) (by simp) db3
  | dooms =>
    intro H2 y kp db hy
    have nst : ∀ x, x ∈ [q.b] → Nst H1 q.b x := fun x hx => .inl (List.mem_singleton.mp hx)
    have trs : TrS c H0 H2 p q.b uP l := by
      rcases S.tr with h | ⟨nl, t, g, e, tr, h1, h2, h3⟩
      · exact .inl h
      · have dt := S.db.dt tr
        exact .inr ⟨nl, t, g, e, tr.mv kp (by simpa using dt.2.2.2.1) (by simpa using h1) (by simpa using h2), h1, h2, h3⟩
    refine fin H2 _ y ⟨same_mv S.s kp (by simpa using S.b0), pool_mv S.pool kp (by simpa using S.pb), db, st'.mv kp nst, S.ok, S.p0, S.d0, S.b0, S.pb, trs⟩ ⟨_, hy, fun R hR => .inl ⟨.inr rfl, fun H3 kp3 db3 => hR H3 ?_⟩⟩
    exact S.back ((kp.sub (by simp)).trans kp3) (by simp) db3
  | fresh =>
    intro H2 y t g kp nt no ns tr db hy
    have nst : ∀ x, x ∈ [d, q.b] → Nst H1 q.b x := fun x hx => by
      have hx : x = d ∨ x = q.b := by simpa using hx
      rcases hx with rfl | rfl
      · exact .inr (.inr (.inl ⟨_, _, _, S.db.1⟩))
      · exact .inl rfl
    refine fin H2 _ y ⟨same_mv S.s kp (by simpa using ⟨S.d0, S.b0⟩), pool_mv S.pool kp (by simpa using ⟨S.pd, S.pb⟩), db, st'.mv kp nst, fun w hw => ?_, S.p0, S.d0, S.b0, S.pb, .inr ⟨by show [none] ≠ []; simp, t, g, rfl, tr, nb no, nb ns, S.s.free nt, S.s.free ns, np no, np ns⟩⟩
      ⟨_, hy, fun R hR => .inr ⟨rfl, t, g, 0, rfl, Nat.zero_le _, nb no, nb ns, tr, fun H3 kp3 db3 _ => hR H3 ?_⟩⟩
    · have hw : some w ∈ [none] := hw
      simp at hw
    · refine S.back (L := [d, q.b, t, g.s]) ((kp.sub (by simp)).trans kp3) (fun x hx => ?_) db3
      have hx : x = d ∨ x = q.b ∨ x = t ∨ x = g.s := by simpa using hx
      rcases hx with h | h | h | h
      · exact .inl h
      · exact .inr (.inl h)
      · exact .inr (.inr (by rw [h]; exact nt))
      · exact .inr (.inr (by rw [h]; exact ns))
  | inner =>
    intro H2 y t g e0 tr0 o0 s0 kp tr2 db hy
    rcases S.tr with ⟨_, e⟩ | ⟨nl, t1, g1, e, tr, h1, h2, h3, h4, h5, h6⟩
    · rw [e] at e0
      cases e0
    · rw [e] at e0
      cases e0
      obtain ⟨rfl, ef⟩ := tr.inj tr0
      have dt := S.db.dt tr
      obtain ⟨j, hj⟩ : ∃ j, l.length = j + 1 := ⟨l.length - 1, by have := List.length_pos_iff.mpr nl; omega⟩
      have nst : ∀ x, x ∈ [d, q.b, t, g1.s] → Nst H1 q.b x := fun x hx => by
        have hx : x = d ∨ x = q.b ∨ x = t ∨ x = g1.s := by simpa using hx
        rcases hx with rfl | rfl | rfl | rfl
        · exact .inr (.inr (.inl ⟨_, _, _, S.db.1⟩))
        · exact .inl rfl
        · exact .inr (.inr (.inl ⟨_, _, _, tr.1⟩))
        · exact .inr (.inr (.inr (.inl ⟨j, by rw [← hj]; exact tr.2.2.1⟩)))
      have kp4 : Kp [d, q.b, t, g1.s] H1 H2 := kp.sub (by simp)
      have f4 : ∀ x, x ∈ [d, q.b, t, g1.s] → H0 x = none := by simpa using ⟨S.d0, S.b0, h3, h4⟩
      have p4 : p ∉ [d, q.b, t, g1.s] := by simpa using ⟨S.pd, S.pb, S.pt tr.1, h6.symm⟩
      have len1 : (l ++ [none]).length = l.length + 1 := by rw [List.length_append, List.length_singleton]
      refine fin H2 _ y ⟨same_mv S.s kp4 f4, pool_mv S.pool kp4 p4, db, st'.mv kp4 nst, fun w hw => ?_, S.p0, S.d0, S.b0, S.pb, .inr ⟨by show l ++ [none] ≠ []; simp, t, g1, e, ?_, h1, h2, h3, h4, h5, h6⟩⟩
        ⟨_, hy, fun R hR => .inr ⟨rfl, t, g1, l.length, e, ?_, h1, h2, tr2, fun H3 kp3 db3 tr3 => hR H3 ?_⟩⟩
      · have hw : some w ∈ l ++ [none] := hw
        exact S.ok w (by simpa using hw)
      · show TrAt c.T H2 t g1 (l ++ [none]).length (oV (lastO (l ++ [none])))
        rw [len1, lastO_app]
        exact tr2
      · exact hl
      · have kk := kp4.trans kp3
        exact ⟨same_mv S.s kk f4, pool_mv S.pool kk p4, db3, S.st.mv kk nst, S.ok, S.p0, S.d0, S.b0, S.pb, .inr ⟨nl, t, g1, e, by rw [ef]; exact tr3, h1, h2, h3, h4, h5, h6⟩⟩
/-- the top level is doomed, and the law's own stack told so -/
theorem doom_st {H3 : Hp} {l' : List (Option Str)} {sa' t : Addr} {m' : Nat} {g : TrP} (S : LawSt c H0 H1 p d q uP bs sa l m n) (e : uP = .ref t) (tr : TrAt c.T H1 t g l.length (oV (lastO l))) (kp : Kp [t] H1 H2) (tr2 : TrAt c.T H2 t g l'.length (oV (lastO l'))) (nl' : l' ≠ [])
    (s3 : Same H2 H3) (st' : StAt H3 q.b sa' l' m') (ok' : OkL l') : LawSt c H0 H3 p d q uP bs sa' l' m' n := by
  rcases S.tr with ⟨_, e1⟩ | ⟨nl, t1, g1, e1, tr1, h1, h2, h3, h4, h5, h6⟩
  · rw [e1] at e
    cases e
  · rw [e1] at e
    cases e
    obtain ⟨rfl, _⟩ := tr1.inj tr
    have dt := S.db.dt tr
    exact ⟨(same_mv S.s kp (by simpa using h3)).trans s3, (pool_mv S.pool kp (by simpa using S.pt tr.1)).mv fun o e => s3 _ _ e, (S.db.mv kp (by simpa using dt.1.symm) (by simpa using dt.2.2.2.1.symm)).same s3, st', ok', S.p0, S.d0, S.b0, S.pb, .inr ⟨nl', _, _, e1, tr2.same s3, h1, h2, h3, h4, h5, h6⟩⟩
end
end IC
namespace IC
open PySem L2 TL
/-! ### the text by places -/
def top (i : Nat) : Stmt := PySem.Challenge.pw_innercommits_k04_entering_blocks.main.body.getD i (.Pass ⟨0, 0, 0, 0⟩)
abbrev s_law_pool : Stmt := top 23
abbrev s_law_draw : Stmt := top 24
abbrev s_law_word : Stmt := top 25
abbrev s_is_word : Stmt := top 13
abbrev s_Mode_is_mode : Stmt := inClass (top 14) 9
abbrev s_Missing___init__ : Stmt := inClass (top 8) 0
abbrev s_Present___init__ : Stmt := inClass (top 9) 0
abbrev s_Doomed___init__ : Stmt := inClass (top 7) 0
abbrev s_Transaction___init__ : Stmt := inClass (top 20) 0
abbrev s_Transaction_doom : Stmt := inClass (top 20) 1
abbrev s_Database___init__ : Stmt := inClass (top 21) 0
abbrev s_Database__enter_free : Stmt := inClass (top 21) 3
abbrev s_Database__enter_present : Stmt := inClass (top 21) 4
abbrev s_Database_enter : Stmt := inClass (top 21) 2
abbrev s_Database_reason : Stmt := inClass (top 21) 18
abbrev s_Database_is_open : Stmt := inClass (top 21) 16
abbrev s_Database_is_doomed : Stmt := inClass (top 21) 17
abbrev s_Database_levels : Stmt := inClass (top 21) 19
abbrev s_Database_depth : Stmt := inClass (top 21) 20
abbrev s_Database__keep : Stmt := inClass (top 21) 9
abbrev s_Database__end_level : Stmt := inClass (top 21) 7
abbrev s_Database__end_block : Stmt := inClass (top 21) 6
abbrev s_Database_leave : Stmt := inClass (top 21) 5
abbrev s_Database_doom : Stmt := inClass (top 21) 15
abbrev s_law_entered : Stmt := top 26
abbrev s_law_enter : Stmt := top 27
abbrev s_law_shows : Stmt := top 28
abbrev s_law : Stmt := top 29
theorem sc_law_pool : FnScope ["script", "at", "cell", "size", "seed"] ["script", "at"] (defScope s_law_pool) := ⟨rfl, rfl, rfl, by decide +kernel, rfl, by decide +kernel, by decide +kernel⟩
theorem sc_law_draw : FnScope ["pool", "many", "digit", "count", "mixed"] ["pool", "many"] (defScope s_law_draw) := ⟨rfl, rfl, rfl, by decide +kernel, rfl, by decide +kernel, by decide +kernel⟩
theorem sc_law_word : FnScope ["pool", "letters", "k"] ["pool"] (defScope s_law_word) := ⟨rfl, rfl, rfl, by decide +kernel, rfl, by decide +kernel, by decide +kernel⟩
theorem sc_is_word : FnScope ["thing", "letter"] ["thing"] (defScope s_is_word) := ⟨rfl, rfl, rfl, by decide +kernel, rfl, by decide +kernel, by decide +kernel⟩
theorem sc_Mode_is_mode : FnScope ["thing"] ["thing"] (defScope s_Mode_is_mode) := ⟨rfl, rfl, rfl, by decide +kernel, rfl, by decide +kernel, by decide +kernel⟩
theorem sc_Missing___init__ : FnScope ["self", "mode"] ["self", "mode"] (defScope s_Missing___init__) := ⟨rfl, rfl, rfl, by decide +kernel, rfl, by decide +kernel, by decide +kernel⟩
theorem sc_Present___init__ : FnScope ["self", "mode"] ["self", "mode"] (defScope s_Present___init__) := ⟨rfl, rfl, rfl, by decide +kernel, rfl, by decide +kernel, by decide +kernel⟩
theorem sc_Doomed___init__ : FnScope ["self", "first"] ["self", "first"] (defScope s_Doomed___init__) := ⟨rfl, rfl, rfl, by decide +kernel, rfl, by decide +kernel, by decide +kernel⟩
theorem sc_Transaction___init__ : FnScope ["self"] ["self"] (defScope s_Transaction___init__) := ⟨rfl, rfl, rfl, by decide +kernel, rfl, by decide +kernel, by decide +kernel⟩
theorem sc_Transaction_doom : FnScope ["self", "first"] ["self", "first"] (defScope s_Transaction_doom) := ⟨rfl, rfl, rfl, by decide +kernel, rfl, by decide +kernel, by decide +kernel⟩
theorem sc_Database___init__ : FnScope ["self"] ["self"] (defScope s_Database___init__) := ⟨rfl, rfl, rfl, by decide +kernel, rfl, by decide +kernel, by decide +kernel⟩
theorem sc_Database__enter_free : FnScope ["self", "mode"] ["self", "mode"] (defScope s_Database__enter_free) := ⟨rfl, rfl, rfl, by decide +kernel, rfl, by decide +kernel, by decide +kernel⟩
theorem sc_Database__enter_present : FnScope ["self", "mode", "present"] ["self", "mode", "present"] (defScope s_Database__enter_present) := ⟨rfl, rfl, rfl, by decide +kernel, rfl, by decide +kernel, by decide +kernel⟩
theorem sc_Database_enter : FnScope ["self", "mode", "before", "effect"] ["self", "mode"] (defScope s_Database_enter) := ⟨rfl, rfl, rfl, by decide +kernel, rfl, by decide +kernel, by decide +kernel⟩
theorem sc_Database_reason : FnScope ["self"] ["self"] (defScope s_Database_reason) := ⟨rfl, rfl, rfl, by decide +kernel, rfl, by decide +kernel, by decide +kernel⟩
theorem sc_Database_is_open : FnScope ["self"] ["self"] (defScope s_Database_is_open) := ⟨rfl, rfl, rfl, by decide +kernel, rfl, by decide +kernel, by decide +kernel⟩
theorem sc_Database_is_doomed : FnScope ["self"] ["self"] (defScope s_Database_is_doomed) := ⟨rfl, rfl, rfl, by decide +kernel, rfl, by decide +kernel, by decide +kernel⟩
theorem sc_Database_levels : FnScope ["self"] ["self"] (defScope s_Database_levels) := ⟨rfl, rfl, rfl, by decide +kernel, rfl, by decide +kernel, by decide +kernel⟩
theorem sc_Database_depth : FnScope ["self"] ["self"] (defScope s_Database_depth) := ⟨rfl, rfl, rfl, by decide +kernel, rfl, by decide +kernel, by decide +kernel⟩
theorem sc_Database__keep : FnScope ["self", "transaction", "write"] ["self", "transaction"] (defScope s_Database__keep) := ⟨rfl, rfl, rfl, by decide +kernel, rfl, by decide +kernel, by decide +kernel⟩
theorem sc_Database__end_level : FnScope ["self", "transaction", "error", "commits", "start", "first"] ["self", "transaction", "error", "commits"] (defScope s_Database__end_level) := ⟨rfl, rfl, rfl, by decide +kernel, rfl, by decide +kernel, by decide +kernel⟩
theorem sc_Database__end_block : FnScope ["self", "error", "commits", "effect", "before", "present"] ["self", "error", "commits"] (defScope s_Database__end_block) := ⟨rfl, rfl, rfl, by decide +kernel, rfl, by decide +kernel, by decide +kernel⟩
theorem sc_Database_leave : FnScope ["self", "error", "commits", "first", "ending"] ["self", "error", "commits"] (defScope s_Database_leave) := ⟨rfl, rfl, rfl, by decide +kernel, rfl, by decide +kernel, by decide +kernel⟩
theorem sc_Database_doom : FnScope ["self", "first"] ["self", "first"] (defScope s_Database_doom) := ⟨rfl, rfl, rfl, by decide +kernel, rfl, by decide +kernel, by decide +kernel⟩
theorem sc_law_entered : FnScope ["stack", "mode", "top"] ["stack", "mode"] (defScope s_law_entered) := ⟨rfl, rfl, rfl, by decide +kernel, rfl, by decide +kernel, by decide +kernel⟩
theorem sc_law_enter : FnScope ["db", "mode", "e"] ["db", "mode"] (defScope s_law_enter) := ⟨rfl, rfl, rfl, by decide +kernel, rfl, by decide +kernel, by decide +kernel⟩
theorem sc_law_shows : FnScope ["db", "stack", "depth", "top", "reason", "told"] ["db", "stack", "depth"] (defScope s_law_shows) := ⟨rfl, rfl, rfl, by decide +kernel, rfl, by decide +kernel, by decide +kernel⟩
theorem sc_law : FnScope ["script", "modes", "at", "pool", "db", "stack", "depth", "turn", "mode", "error", "inside", "word"] ["script"] (defScope s_law) := ⟨rfl, rfl, rfl, by decide +kernel, rfl, by decide +kernel, by decide +kernel⟩
/-- the built-in names that no line of the text binds -/
structure Bn (mg : Str → Option Value) : Prop where
  int : mg "int" = none
  len : mg "len" = none
  abs : mg "abs" = none
  range : mg "range" = none
  max : mg "max" = none
  min : mg "min" = none
  isi : mg "isinstance" = none
  str : mg "str" = none
  all : mg "all" = none
  repr : mg "repr" = none
end IC
namespace IC
open PySem L2 TL
section
variable {P : Program} {w : World} {K : PySem.W.Frag} {mg : Str → Option Value} {base : Heap}
theorem ok_draw {f : Addr} {fd : FuncData} (F : Fun K "_law_draw" "_law_draw" s_law_draw f fd) (T : Bn mg) : FnOk P w K mg base CX0 1 f fd ["pool", "many"] spDraw := by
  refine F.ok sc_law_draw (fun vs H Q E h => ?_) (fun cdv A outer s H vs Q E hr h => ?_)
  · obtain ⟨p, m, n, rfl, _⟩ := h
    rfl
  · obtain ⟨p, m, n, rfl, ⟨a, b, c, hp, a0, b0, b1, c0, c1⟩, hn, m0, m1, k⟩ := h
    refine ⟨_, (pss_cons (ps_if (pt_cmpR op_gt (pe_ix ix_list (pv 0) pe_int (fun _ _ => rfl)) pe_int (nomark _))
  (pss_cons (ps_set (i := 2) sc_law_draw.nd rfl (Or.inl rfl) (pe_op op_mod (pe_callTy call_int1 (by rfl) T.int (by decide +kernel) (pa_cons (pe_ix ix_list (pv 0) pe_int (fun _ _ => rfl)) pa_nil)) (pv 1)))
  (pss_cons (ps_asg (pe_op op_fdivW (pe_ix ix_list (pv 0) pe_int (fun _ _ => rfl)) (pv 1)) (pg_sub (pv 0) pe_int set_list))
  (pss_one (ps_ret (pv 2)))))
  pss_nil)
  (pss_cons (ps_set (i := 3) sc_law_draw.nd rfl (Or.inl rfl) (pe_op op_add (pe_ix ix_list (pv 0) pe_int (fun _ _ => rfl)) pe_int))
  (pss_cons (ps_asg (pv 3) (pg_sub (pv 0) pe_int set_list))
  (pss_cons (ps_set (i := 4) sc_law_draw.nd rfl (Or.inl rfl) (pe_op op_mod (pe_callTy call_int1 (by rfl) T.int (by decide +kernel) (pa_cons (pe_op op_add (pe_op op_pow (pe_op op_add (pe_ix ix_list (pv 0) pe_int (fun _ _ => rfl)) (pe_op op_mul pe_int (pv 3))) pe_int) (pe_op op_mul pe_int (pv 3))) pa_nil)) pe_int))
  (pss_cons (ps_set (i := 4) sc_law_draw.nd rfl (Or.inl rfl) (pe_op op_mod (pe_callTy call_int1 (by rfl) T.int (by decide +kernel) (pa_cons (pe_op op_pow (pe_op op_add (pv 4) (pe_op op_mul pe_int (pv 3))) pe_int) pa_nil)) pe_int))
  (pss_one (ps_ret (pe_op op_mod (pe_callTy call_int1 (by rfl) T.int (by decide +kernel) (pa_cons (pe_op op_fdiv (pv 4) pe_int) pa_nil)) (pv 1))))))))), ?_⟩
    have g0 : atI (pl a b c) 0 = some (.int a) := rfl
    have g1 : atI (pl a b c) 1 = some (.int b) := rfl
    have g2 : atI (pl a b c) 2 = some (.int c) := rfl
    refine ⟨_, rfl, p, pl a b c, 0, _, rfl, rfl, SqL.of hp, g0, a, 0, rfl, rfl, _, rfl, ?_⟩
    refine ite2 (fun hpos => ?_) (fun hneg => ?_)
    · refine ⟨_, rfl, p, pl a b c, 0, _, rfl, rfl, SqL.of hp, g0, .inl ⟨a, rfl, _, rfl, a, m, rfl, rfl, m0, ?_⟩⟩
      refine ⟨_, rfl, p, pl a b c, 0, _, rfl, rfl, SqL.of hp, g0, _, rfl, a, m, rfl, rfl, wide_div m0 m1 (by decide) (by decide), _, rfl, p, pl a b c, 0, 0, rfl, rfl, hp, rfl, ?_⟩
      refine ⟨_, rfl, ?_⟩
      refine k (a % m) _ (Int.emod_nonneg _ (by omega)) (Int.emod_lt_of_pos _ m0) ⟨a / m, b, c, upd_same, Int.ediv_nonneg a0 (by omega), b0, b1, c0, by omega⟩
    · refine ⟨_, rfl, p, pl a b c, 2, _, rfl, rfl, SqL.of hp, g2, c, 1, rfl, rfl, ?_⟩
      refine ⟨_, rfl, _, rfl, p, pl a b c, 2, 2, rfl, rfl, hp, rfl, ?_⟩
      have g1' : atI ((pl a b c).set 2 (.int (c + 1))) 1 = some (.int b) := rfl
      refine ⟨_, rfl, p, _, 1, _, rfl, rfl, SqL.of upd_same, g1', _, rfl, 48611, c + 1, rfl, rfl, .inl (by decide), b, _, rfl, rfl, _, 3, rfl, rfl, ⟨by decide, by decide, by omega⟩, _, rfl, 17, c + 1, rfl, rfl, .inl (by decide), _, _, rfl, rfl, .inl ⟨_, rfl, _, _, rfl, rfl, (by show (0 : Int) < 2305843009213693921; decide), ?_⟩⟩
      have hX : 0 ≤ ((b + 48611 * (c + 1)) ^ Int.toNat 3 + 17 * (c + 1)) % 2305843009213693921 ∧ ((b + 48611 * (c + 1)) ^ Int.toNat 3 + 17 * (c + 1)) % 2305843009213693921 < 2305843009213693921 :=
        ⟨Int.emod_nonneg _ (by decide), Int.emod_lt_of_pos _ (by decide)⟩
      dsimp only
      generalize ((b + 48611 * (c + 1)) ^ Int.toNat 3 + 17 * (c + 1)) % 2305843009213693921 = X at hX ⊢
      obtain ⟨x0, x1⟩ := hX
      refine ⟨_, rfl, _, rfl, 104729, c + 1, rfl, rfl, .inl (by decide), X, _, rfl, rfl, _, 3, rfl, rfl, ⟨by decide, by decide, by omega⟩, .inl ⟨_, rfl, _, _, rfl, rfl, (by show (0 : Int) < 1000000000000000003; decide), ?_⟩⟩
      have hY : 0 ≤ (X + 104729 * (c + 1)) ^ Int.toNat 3 % 1000000000000000003 := Int.emod_nonneg _ (by decide)
      refine ⟨_, rfl, _, _, rfl, rfl, ⟨by decide, by decide⟩, .inl ⟨_, rfl, _, rfl, _, m, rfl, rfl, m0, ?_⟩⟩
      refine k _ _ (Int.emod_nonneg _ (by omega)) (Int.emod_lt_of_pos _ m0) ⟨a, b, c + 1, upd_same, a0, b0, b1, by omega, by omega⟩
theorem ok_pool {f : Addr} {fd : FuncData} (F : Fun K "_law_pool" "_law_pool" s_law_pool f fd) (T : Bn mg) : FnOk P w K mg base CX0 1 f fd ["script", "at"] (spPool K) := by
  refine F.ok sc_law_pool (fun vs H Q E h => ?_) (fun cdv A outer s H vs Q E hr h => ?_)
  · obtain ⟨a, ns, j, rfl, _⟩ := h
    rfl
  · obtain ⟨a, ns, j, rfl, hS, hj, k⟩ := h
    refine ⟨_, (Evl.pss_cut (ps_set (i := 2) sc_law_pool.nd rfl (Or.inl rfl) (pe_ifExp (pt_cmpR op_lt (pv 1) (pe_callB call_len_seq (by rfl) T.len PySem.boot_len (pa_cons (pv 0) pa_nil)) (nomark _)) (pe_ix ix_list (pv 0) (pv 1) (fun _ _ => rfl)) pe_int))
  (pss_cons (ps_set (i := 3) sc_law_pool.nd rfl (Or.inl rfl) (pe_callB call_abs (by rfl) T.abs PyProof.Rows.boot_abs (pa_cons (pv 2) pa_nil)))
  (pss_cons (ps_set (i := 4) sc_law_pool.nd rfl (Or.inl rfl) (pe_op op_mod (pe_callTy call_int1 (by rfl) T.int (by decide +kernel) (pa_cons (pe_op op_add (pe_op op_add (pe_op op_mul (pv 3) pe_int) (pe_op op_mul pe_int (pv 1))) (pe_callTy call_int1 (by rfl) T.int (by decide +kernel) (pa_cons (pe_cmpR op_lt (pv 2) pe_int (nomark _)) pa_nil))) pa_nil)) pe_int))
  (pss_one (ps_ret (pe_lst (pa_cons (pe_ifExp (pt_cmpR op_ge (pv 3) (pe_op op_pow pe_int pe_int) (nomark _)) (pv 3) pe_int) (pa_cons (pe_op op_add (pv 4) pe_int) (pa_cons pe_int pa_nil))))))))), ?_⟩
    have hj' : (j : Int) < 64 := by omega
    refine ⟨fun σ H' => H' = H ∧ ∃ c : Int, σ = [some (.ref a), some (.int j), some (.int c), none, none], ?_, ?_⟩
    · refine ⟨_, rfl, _, rfl, a, _, rfl, .inl hS, _, _, rfl, rfl, _, rfl, ?_⟩
      refine ite2 (fun hlt => ?_) (fun _ => ⟨rfl, 0, rfl⟩)
      have hlt := of_decide_eq_true hlt
      have hl : j < ns.length := by
        rw [List.length_map] at hlt
        exact Int.ofNat_lt.mp hlt
      have hz : (ns.map V.int)[j]? = some (V.int ns[j]) := by
        rw [List.getElem?_map, List.getElem?_eq_getElem hl]
        rfl
      exact ⟨_, rfl, _, rfl, a, _, _, _, rfl, rfl, hS, atI_nat hz, rfl, _, rfl⟩
    · rintro σ H' ⟨rfl, c, rfl⟩
      refine ⟨_, rfl, c, rfl, ?_⟩
      refine ⟨_, rfl, _, 6, rfl, rfl, .inr (by decide), _, rfl, 2, j, rfl, rfl, .inl (by decide), _, _, rfl, rfl, _, rfl, c, 0, rfl, rfl, .inr ⟨_, rfl, _, _, rfl, rfl, .inl ⟨_, rfl, _, _, rfl, rfl, (by show (0 : Int) < 2305843009213693951; decide), ?_⟩⟩⟩
      refine ⟨_, rfl, 10, 18, rfl, rfl, ⟨by decide, by decide, by decide⟩, _, _, rfl, rfl, _, rfl, ?_⟩
      have h0 : (0 : Int) ≤ if c < 0 then -c else c := by split <;> omega
      have fin : ∀ x y : Int, 0 ≤ x → ∀ p, H' p = none → Q (.ref p) (upd H' p (.lst [.int x, .int (y % 2305843009213693951 + 12345), .int 0])) := fun x y hx p hp => by
        have e1 := Int.emod_nonneg y (show (2305843009213693951 : Int) ≠ 0 by decide)
        have e2 := Int.emod_lt_of_pos y (show (0 : Int) < 2305843009213693951 by decide)
        exact k p _ hp ⟨x, _, 0, upd_same, hx, by omega, by omega, by omega, by omega⟩
      refine ite2 (fun _ => ?_) (fun _ => ?_)
      · exact ⟨_, rfl, _, rfl, _, _, rfl, rfl, (by show 3 ≤ sizeLine; decide), fun p hp => fin _ _ h0 p hp⟩
      · exact ⟨_, rfl, _, _, rfl, rfl, (by show 3 ≤ sizeLine; decide), fun p hp => fin 0 _ (by decide) p hp⟩
end
end IC
namespace IC
open PySem L2 TL
section
variable {P : Program} {w : World} {K : PySem.W.Frag} {mg : Str → Option Value} {base : Heap}
theorem ok_word {f : Addr} {fd : FuncData} (F : Fun K "_law_word" "_law_word" s_law_word f fd) (T : Bn mg) (D_law_draw : Df P w K mg base 1 "_law_draw" ["pool", "many"] spDraw) : FnOk P w K mg base CX0 2 f fd ["pool"] spWord := by
  refine F.ok sc_law_word (fun vs H Q E h => ?_) (fun cdv A outer s H vs Q E hr h => ?_)
  · obtain ⟨p, n, rfl, _⟩ := h
    rfl
  · obtain ⟨p, n, rfl, hp, hn, k⟩ := h
    refine ⟨_, (pss_cons (ps_set (i := 1) sc_law_word.nd rfl (Or.inr rfl) pe_str)
  (pss_one (ps_ret (pe_join pe_str (pe_lc (own := [("k", 2)]) (g := gName 2) (tt := tYes) rfl sc_law_word.nd (pi_range1 rfl T.range (pa_cons (pe_op op_add pe_int (pe_df D_law_draw hr (by decide) rfl (pa_cons (pv 0) (pa_cons pe_int pa_nil)))) pa_nil)) (blkOk_by (N := ["pool", "letters", "k"]) (sc := defScope s_law_word) (by decide +kernel)) (fun _ _ _ _ _ => pg_name (i := 2) sc_law_word.nd rfl (Or.inl rfl)) (fun _ _ _ _ _ => pts_nil) (fun _ _ _ _ _ => (pe_ix ix_str (pv 1) (pe_df D_law_draw hr (by decide) rfl (pa_cons (pv 0) (pa_cons pe_int pa_nil))) (fun _ _ => rfl)))))))), ?_⟩
    refine ⟨⟨_, rfl⟩, _, rfl, p, 8, n, rfl, hp, by omega, by decide, by decide, fun d o d0 d8 hp1 => ⟨_, _, rfl, rfl, _, rfl, by omega, by omega, fun D hD => ?_⟩⟩
    obtain ⟨hpD, hDn⟩ := none_of hD
    refine lc_range (lo := 0) (n := (1 + d).toNat) (fun i H' => ∃ cs : List Nat, cs.length = i ∧ (∀ c ∈ cs, Lt c) ∧ H' D = some (.lst ((cs.map sgn).map V.str)) ∧ PoolAt H' p (n + 1 + i) ∧ Kp [p] H H')
      ⟨[], rfl, by simp, upd_same, (hp1.mv fun u e => by rw [upd_ne hpD]; exact e).up (by omega), (Kp.at_ (by simp)).trans (Kp.new hD)⟩ ?_ ?_
    · rintro i H' hi ⟨cs, hl, hc, hcD, hp2, kp⟩
      refine ⟨rfl, ?_⟩
      refine ⟨_, rfl, _, rfl, p, 26, n + 1 + i, rfl, hp2, by omega, by decide, by decide, fun e o2 e0 e1 hp3 => ?_⟩
      obtain ⟨c, hat, hL⟩ := abc_at e e0 e1
      refine ⟨_, e, c, rfl, rfl, by decide +kernel, hat, ?_⟩
      refine ⟨_, (by rw [upd_ne hpD.symm]; exact hcD), small1000 (by rw [List.length_map, List.length_map]; omega), cs ++ [c], by simp [hl], ?_, ?_, ?_, (kp.mutAt (by simp)).mut hDn⟩
      · intro x hx
        rcases List.mem_append.mp hx with hx | hx
        · exact hc x hx
        · rw [List.mem_singleton.mp hx]; exact hL
      · rw [upd_same, List.map_append, List.map_append]
        rfl
      · exact (hp3.mv fun u q => by rw [upd_ne hpD]; exact q).up (by omega)
    · rintro H' ⟨cs, hl, hc, hcD, hp2, kp⟩
      refine ⟨_, D, cs.map sgn, rfl, rfl, .inl (SqL.of hcD), ?_, ?_⟩
      · have e : (List.map (fun z : Str => z.length) (cs.map sgn)).sum = cs.length := by
          rw [List.map_map]
          clear hl hc hcD hp2 kp
          induction cs with
          | nil => rfl
          | cons c r ih => rw [List.map_cons, List.sum_cons, ih, List.length_cons]; show 1 + r.length = r.length + 1; omega
        rw [e, List.length_map, hl]
        show (1 + d).toNat + (1 + d).toNat * 0 ≤ 16777216
        omega
      · have et := tl_joined cs
        refine k _ H' ⟨?_, ?_, ?_⟩ (hp2.up (by omega)) kp
        · rw [et, hl]; omega
        · rw [et, hl]; omega
        · rw [et]; exact hc
end
end IC
namespace IC
open PySem L2 TL
section
variable {P : Program} {w : World} {K : PySem.W.Frag} {mg : Str → Option Value} {base : Heap}
theorem ok_is_mode {f C p t : Addr} {mc : Value} {fd : FuncData} (F : Fun K "is_mode" "Mode.is_mode" s_Mode_is_mode f fd) (T : Bn mg) (M : ModeTxt K mg C p f t mc) : FnOk P w K mg base CX0 1 f fd ["thing"] (spIsMode K) := by
  refine F.ok sc_Mode_is_mode (fun vs H Q E h => ?_) (fun cdv A outer s H vs Q E hr h => ?_)
  · obtain ⟨v, rfl, _⟩ := h
    rfl
  · obtain ⟨v, rfl, h⟩ := h
    refine ⟨_, (pss_one (ps_ret (pe_and (pe_callB call_isi (by rfl) T.isi PyProof.Rows.boot_isinstance (pa_cons (pv 0) (pa_cons (pe_bltn (v := .ty "str") (by rfl) T.str (by decide +kernel) rfl) pa_nil))) (pe_one (pe_cmpR op_in_seq (pv 0) (ClX.pe_cval (pe_glob (v := .ref _) rfl M.mo rfl)) (by rfl)))))), ?_⟩
    rcases h with ⟨z, rfl, k⟩ | ⟨⟨T', ty, kb⟩, k⟩
    · refine ⟨_, rfl, .str z, .ty "str", .type "str", .type "str", true, rfl, .ty "str", .base (.str z), kit_ty (by decide +kernel), true, rfl, ?_⟩
      exact ⟨_, rfl, C, mc, _, _, rfl, M.rd, M.all, t, modesV, rfl, .inr (M.seq H), rfl, modes_flat, k⟩
    · refine ⟨_, rfl, v, .ty "str", .type T', .type "str", false, rfl, .ty "str", ty, kit_ty kb, false, rfl, ?_⟩
      exact k
end
end IC
namespace IC
open PySem L2 TL
section
variable {P : Program} {w : World} {K : PySem.W.Frag} {mg : Str → Option Value} {base : Heap}
theorem ok_is_word {f : Addr} {fd : FuncData} (F : Fun K "is_word" "is_word" s_is_word f fd) (T : Bn mg) : FnOk P w K mg base CX0 1 f fd ["thing"] (spIsWord K) := by
  refine F.ok sc_is_word (fun vs H Q E h => ?_) (fun cdv A outer s H vs Q E hr h => ?_)
  · obtain ⟨v, rfl, _⟩ := h
    rfl
  · obtain ⟨v, rfl, h⟩ := h
    refine ⟨_, (pss_cons (ps_if (PW.pt (pw_or (pt_not (pt_val (pe_callB call_isi (by rfl) T.isi PyProof.Rows.boot_isinstance (pa_cons (pv 0) (pa_cons (pe_bltn (v := .ty "str") (by rfl) T.str (by decide +kernel) rfl) pa_nil))))) (pw_or1 (pt_not (pt_chain op_le op_le pe_int (pe_callB call_len_str (by rfl) T.len PySem.boot_len (pa_cons (pv 0) pa_nil)) pe_int)))))
  (pss_one (ps_ret pe_bl))
  pss_nil)
  (pss_one (ps_ret (pe_callB (cr_all rfl) (by rfl) T.all (by decide +kernel) (pa_cons (pe_lc (own := [("letter", 1)]) (g := gName 1) (tt := tYes) rfl sc_is_word.nd (pi_str (pv 0)) (blkOk_by (N := ["thing", "letter"]) (sc := defScope s_is_word) (by decide +kernel)) (fun _ _ _ _ _ => pg_name (i := 1) sc_is_word.nd rfl (Or.inl rfl)) (fun _ _ _ _ _ => pts_nil) (fun _ _ _ _ _ => (pe_chain op_le_str op_le_str pe_str (pv 1) pe_str))) pa_nil))))), ?_⟩
    rcases h with ⟨z, rfl, hl, k⟩ | ⟨⟨T', ty, kb⟩, k⟩
    · refine ⟨_, rfl, .str z, .ty "str", .type "str", .type "str", true, rfl, .ty "str", .base (.str z), kit_ty (by decide +kernel), true, rfl, ?_⟩
      refine ⟨_, rfl, z, rfl, len_le hl, 1, z.length, rfl, rfl, _, rfl, ?_⟩
      refine ite2 (fun h1 => ?_) (fun h1 => ?_)
      · have h1 := of_decide_eq_true h1
        refine ⟨_, _, rfl, rfl, _, rfl, ?_⟩
        cases hd : decide ((z.length : Int) ≤ 8) with
        | true =>
          refine ⟨_, rfl, z, rfl, fun D hD => ?_⟩
          have hz : z.cps.size = (tl z).length := by simp [tl]
          refine lc_it (walk_str (z := z)) (fun i H' => H' D = some (.lst (((tl z).take i).map fun c => V.bl (lB c))) ∧ Same H H') ⟨upd_same, Same.new hD⟩ (fun _ _ _ _ => trivial) ?_ ?_
          · rintro i x _ H' hi ⟨hcD, sm⟩ ⟨rfl, c, hc, rfl⟩
            have hc' : (tl z)[i]? = some c := by simpa [tl] using hc
            have fin : ∃ acc, H' D = some (.lst acc) ∧ acc.length < sizeLine ∧ upd H' D (.lst (acc ++ [V.bl (lB c)])) D = some (.lst (((tl z).take (i + 1)).map fun c => V.bl (lB c))) ∧ Same H (upd H' D (.lst (acc ++ [V.bl (lB c)]))) := by
              refine ⟨_, hcD, small1000 (by rw [List.length_map, List.length_take]; omega), ?_, ?_⟩
              · rw [upd_same, List.take_add_one, hc', List.map_append]
                rfl
              · exact fun b o e => by rw [upd_ne (ne_of_none e hD)]; exact sm b o e
            refine ⟨rfl, ?_⟩
            refine ⟨_, rfl, _, _, rfl, rfl, _, rfl, ?_⟩
            rw [lt_a c]
            unfold lB at fin
            cases h97 : decide (97 ≤ c) with
            | true =>
              rw [h97] at fin
              refine ⟨_, _, rfl, rfl, ?_⟩
              rw [z_lt c, Bool.not_not]
              exact fin
            | false =>
              rw [h97] at fin
              exact fin
          · rintro H' ⟨hcD, sm⟩
            have e : wB z = (((tl z).map lB).all id) := by
              have h8 := of_decide_eq_true hd
              rw [len_tl] at h1 h8
              unfold wB
              rw [decide_eq_true (by omega), decide_eq_true (by omega), Bool.true_and, Bool.true_and, List.all_map]
              rfl
            refine ⟨D, (tl z).map lB, rfl, SqL.of ?_, ?_⟩
            · rw [hcD, hz, List.take_length, List.map_map]
              rfl
            · have q := k H' sm
              rw [e] at q
              exact q
        | false =>
          have e : wB z = false := by
            have q := of_decide_eq_false hd
            rw [len_tl] at q
            unfold wB
            rw [decide_eq_false (p := (tl z).length ≤ 8) (by omega), Bool.false_and, Bool.and_false]
          have q := k H (Same.refl H)
          rw [e] at q
          exact q
      · rw [Bool.not_eq_true] at h1
        have e : wB z = false := by
          have q := of_decide_eq_false h1
          rw [len_tl] at q
          unfold wB
          rw [decide_eq_false (by omega)]
          rfl
        have q := k H (Same.refl H)
        rw [e] at q
        exact ⟨_, rfl, q⟩
    · refine ⟨_, rfl, v, .ty "str", .type T', .type "str", false, rfl, .ty "str", ty, kit_ty kb, false, rfl, ?_⟩
      exact k H (Same.refl H)
end
end IC
namespace IC
open PySem L2 TL
section
variable {P : Program} {w : World} {K : PySem.W.Frag} {mg : Str → Option Value} {base : Heap} {c : Cs}
theorem ok_missing {f C : Addr} {fd : FuncData} (F : Fun K "__init__" "Missing.__init__" s_Missing___init__ f fd) (O : OexC K C) (n1 : PySem.W.findIn K (.ref C) "mode" = some none) (n2 : PySem.W.findIn K (.ref C) "word" = some none) :
    FnOk P w K mg base CX0 1 f fd ["self", "mode"] (spErr C fsM) := by
  refine F.ok sc_Missing___init__ (fun vs H Q E h => ?_) (fun cdv A outer s H vs Q E hr h => ?_)
  · obtain ⟨a, v, rfl, _⟩ := h
    rfl
  · obtain ⟨a, v, rfl, ea, k⟩ := h
    refine ⟨_, (pss_cons (ps_ost (pv 0) (pv 1))
  (pss_one (ps_ost (pv 0) pe_str))), ?_⟩
    refine ⟨_, rfl, _, rfl, a, C, rfl, O, n1, .inl ⟨ea, fun d nd ne => ?_⟩⟩
    refine ⟨_, rfl, a, C, rfl, O, n2, .inr ⟨d, _, upd_same, (by rw [upd_ne ne, upd_same]), (by show 1 ≤ 900; decide), ?_⟩⟩
    exact k d _ nd ne (by rw [upd_ne ne.symm, upd_same]) upd_same (fun b h1 h2 => by rw [upd_ne h2, upd_ne h1, upd_ne h2])
theorem ok_present {f C : Addr} {fd : FuncData} (F : Fun K "__init__" "Present.__init__" s_Present___init__ f fd) (O : OexC K C) (n1 : PySem.W.findIn K (.ref C) "mode" = some none) (n2 : PySem.W.findIn K (.ref C) "word" = some none) :
    FnOk P w K mg base CX0 1 f fd ["self", "mode"] (spErr C fsP) := by
  refine F.ok sc_Present___init__ (fun vs H Q E h => ?_) (fun cdv A outer s H vs Q E hr h => ?_)
  · obtain ⟨a, v, rfl, _⟩ := h
    rfl
  · obtain ⟨a, v, rfl, ea, k⟩ := h
    refine ⟨_, (pss_cons (ps_ost (pv 0) (pv 1))
  (pss_one (ps_ost (pv 0) pe_str))), ?_⟩
    refine ⟨_, rfl, _, rfl, a, C, rfl, O, n1, .inl ⟨ea, fun d nd ne => ?_⟩⟩
    refine ⟨_, rfl, a, C, rfl, O, n2, .inr ⟨d, _, upd_same, (by rw [upd_ne ne, upd_same]), (by show 1 ≤ 900; decide), ?_⟩⟩
    exact k d _ nd ne (by rw [upd_ne ne.symm, upd_same]) upd_same (fun b h1 h2 => by rw [upd_ne h2, upd_ne h1, upd_ne h2])
theorem ok_doomed {f C : Addr} {fd : FuncData} (F : Fun K "__init__" "Doomed.__init__" s_Doomed___init__ f fd) (O : OexC K C) (n1 : PySem.W.findIn K (.ref C) "first" = some none) (n2 : PySem.W.findIn K (.ref C) "word" = some none) :
    FnOk P w K mg base CX0 1 f fd ["self", "first"] (spErr C fsD) := by
  refine F.ok sc_Doomed___init__ (fun vs H Q E h => ?_) (fun cdv A outer s H vs Q E hr h => ?_)
  · obtain ⟨a, v, rfl, _⟩ := h
    rfl
  · obtain ⟨a, v, rfl, ea, k⟩ := h
    refine ⟨_, (pss_cons (ps_ost (pv 0) (pv 1))
  (pss_one (ps_ost (pv 0) pe_str))), ?_⟩
    refine ⟨_, rfl, _, rfl, a, C, rfl, O, n1, .inl ⟨ea, fun d nd ne => ?_⟩⟩
    refine ⟨_, rfl, a, C, rfl, O, n2, .inr ⟨d, _, upd_same, (by rw [upd_ne ne, upd_same]), (by show 1 ≤ 900; decide), ?_⟩⟩
    exact k d _ nd ne (by rw [upd_ne ne.symm, upd_same]) upd_same (fun b h1 h2 => by rw [upd_ne h2, upd_ne h1, upd_ne h2])
theorem ok_tr_init {f : Addr} {fd : FuncData} (F : Fun K "__init__" "Transaction.__init__" s_Transaction___init__ f fd) (B : DbTxt K mg c) : FnOk P w K mg base CX0 1 f fd ["self"] (spTrInit c) := by
  refine F.ok sc_Transaction___init__ (fun vs H Q E h => ?_) (fun cdv A outer s H vs Q E hr h => ?_)
  · obtain ⟨t, dx, rfl, _⟩ := h
    rfl
  · obtain ⟨t, dx, rfl, ht, k⟩ := h
    refine ⟨_, (pss_cons (ps_fld (pv 0) (pe_lst pa_nil) rfl)
  (pss_cons (ps_fld (pv 0) (pe_lst (pa_cons pe_int pa_nil)) rfl)
  (pss_one (ps_fld (pv 0) pe_non rfl)))), ?_⟩
    refine ⟨Nat.zero_le _, fun o no => ?_⟩
    have to : t ≠ o := ne_of_none ht no
    refine ⟨_, rfl, t, c.T, dx, [], rfl, (by rw [upd_ne to]; exact ht), B.cT, B.nO, (by show 0 < 1000; decide), ?_⟩
    refine ⟨(by show 1 ≤ sizeLine; decide), fun e ne => ?_⟩
    have te : t ≠ e := ne_of_none upd_same ne
    have e2 := none_of (none_of ne).2
    refine ⟨_, rfl, t, c.T, dx, [("own", V.ref o)], rfl, (by rw [upd_ne te]; exact upd_same), B.cT, B.nS, (by show 1 < 1000; decide), ?_⟩
    refine ⟨_, rfl, t, c.T, dx, [("own", V.ref o), ("starts", V.ref e)], rfl, upd_same, B.cT, B.n1, (by show 2 < 1000; decide), ?_⟩
    refine k _ o e ?_ no e2.2 ⟨upd_same, ?_, ?_, e2.1⟩
    · exact ((((Kp.new no).mutAt (List.mem_singleton.mpr rfl)).newAt ne).mutAt (List.mem_singleton.mpr rfl)).mutAt (List.mem_singleton.mpr rfl)
    · rw [upd_ne to.symm, upd_ne to.symm, upd_ne e2.1, upd_ne to.symm, upd_same]
    · rw [upd_ne te.symm, upd_ne te.symm, upd_same]
      rfl
theorem ok_tr_doom {f : Addr} {fd : FuncData} (F : Fun K "doom" "Transaction.doom" s_Transaction_doom f fd) (B : DbTxt K mg c) : FnOk P w K mg base CX0 1 f fd ["self", "first"] (spTrDoom c) := by
  refine F.ok sc_Transaction_doom (fun vs H Q E h => ?_) (fun cdv A outer s H vs Q E hr h => ?_)
  · obtain ⟨t, q, n, f, w, rfl, _⟩ := h
    rfl
  · obtain ⟨t, q, n, f, w, rfl, tr, k⟩ := h
    refine ⟨_, (pss_one (ps_if (pt_cmpR op_isN (pe_fld (pv 0) rfl) pe_non (nomark _))
  (pss_one (ps_fld (pv 0) (pv 1) rfl))
  pss_nil)), ?_⟩
    refine ⟨_, rfl, t, c.T, q.dx, _, oV f, rfl, tr.1, B.cT, B.n1, rfl, rfl, _, rfl, ?_⟩
    cases f with
    | some u => exact k H (Kp.refl _ _) tr
    | none =>
      refine ⟨_, rfl, _, rfl, t, c.T, q.dx, _, rfl, tr.1, B.cT, B.n1, (by show 3 < 1000; decide), ?_⟩
      have n2 : q.o ≠ t := fun e => by
        have z := tr.2.1
        rw [e, tr.1] at z
        cases z
      have n3 : q.s ≠ t := fun e => by
        have z := tr.2.2.1
        rw [e, tr.1] at z
        cases z
      exact k _ (Kp.at_ (List.mem_singleton.mpr rfl)) ⟨upd_same, by rw [upd_ne n2]; exact tr.2.1, by rw [upd_ne n3]; exact tr.2.2.1, tr.2.2.2⟩
theorem ok_db_init {f : Addr} {fd : FuncData} (F : Fun K "__init__" "Database.__init__" s_Database___init__ f fd) (B : DbTxt K mg c) : FnOk P w K mg base CX0 1 f fd ["self"] (spDbInit c) := by
  refine F.ok sc_Database___init__ (fun vs H Q E h => ?_) (fun cdv A outer s H vs Q E hr h => ?_)
  · obtain ⟨d, dx, rfl, _⟩ := h
    rfl
  · obtain ⟨d, dx, rfl, hd, k⟩ := h
    refine ⟨_, (pss_cons (ps_fld (pv 0) pe_non rfl)
  (pss_cons (ps_fld (pv 0) (pe_lst pa_nil) rfl)
  (pss_cons (ps_fld (pv 0) pe_int rfl)
  (pss_cons (ps_fld (pv 0) (pe_lst pa_nil) rfl)
  (pss_cons (ps_fld (pv 0) pe_dnewK rfl)
  (pss_one (ps_fld (pv 0) pe_dnewK rfl))))))), ?_⟩
    refine ⟨_, rfl, d, c.D, dx, [], rfl, hd, B.cD, B.nP, (by show 0 < 1000; decide), ?_⟩
    refine ⟨Nat.zero_le _, fun b nb => ?_⟩
    have db : d ≠ b := ne_of_none upd_same nb
    refine ⟨_, rfl, d, c.D, dx, _, rfl, (by rw [upd_ne db]; exact upd_same), B.cD, B.nB, (by show 1 < 1000; decide), ?_⟩
    refine ⟨_, rfl, d, c.D, dx, _, rfl, upd_same, B.cD, B.nF, (by show 2 < 1000; decide), ?_⟩
    refine ⟨Nat.zero_le _, fun m nm => ?_⟩
    have dm : d ≠ m := ne_of_none upd_same nm
    have m2 := none_of (none_of (none_of nm).2).2
    refine ⟨_, rfl, d, c.D, dx, _, rfl, (by rw [upd_ne dm]; exact upd_same), B.cD, B.nM, (by show 3 < 1000; decide), ?_⟩
    intro h nh
    have dh : d ≠ h := ne_of_none upd_same nh
    have h2 := none_of (none_of nh).2
    have h3 := none_of (none_of h2.2).2
    have h4 := none_of h3.2
    refine ⟨_, rfl, d, c.D, dx, _, rfl, (by rw [upd_ne dh]; exact upd_same), B.cD, B.nH, (by show 4 < 1000; decide), ?_⟩
    intro k' nk
    have dk : d ≠ k' := ne_of_none upd_same nk
    have k2 := none_of (none_of nk).2
    have k3 := none_of (none_of k2.2).2
    have k4 := none_of (none_of k3.2).2
    have k5 := none_of k4.2
    refine ⟨_, rfl, d, c.D, dx, _, rfl, (by rw [upd_ne dk]; exact upd_same), B.cD, B.nK, (by show 5 < 1000; decide), ?_⟩
    have i : d ∈ [d] := List.mem_singleton.mpr rfl
    refine k _ b m h k' ?_ (none_of nb).2 ⟨upd_same, ?_⟩
    · exact (((((((((Kp.at_ i).newAt nb).mutAt i).mutAt i).newAt nm).mutAt i).newAt nh).mutAt i).newAt nk).mutAt i
    · rw [upd_ne db.symm, upd_ne k5.1, upd_ne db.symm, upd_ne h4.1, upd_ne db.symm, upd_ne m2.1, upd_ne db.symm, upd_ne db.symm, upd_same]
end
end IC
namespace IC
open PySem L2 TL
section
variable {P : Program} {w : World} {K : PySem.W.Frag} {mg : Str → Option Value} {base : Heap} {c : Cs}
theorem ok_enter_free {f C p g t : Addr} {mc : Value} {fd : FuncData} (F : Fun K "_enter_free" "Database._enter_free" s_Database__enter_free f fd) (B : DbTxt K mg c) (M : ModeTxt K mg C p g t mc) (E_M : EDf P w K mg base 1 "Missing" c.M "mode" fsM)
    (kM : PySem.W.keepIn K (.ref c.M) = true) (C_T : CDf P w K mg base 1 "Transaction" c.T (spTrInit c)) : FnOk P w K mg base (L2.CX P w) 3 f fd ["self", "mode"] (spFree c) := by
  refine F.okX sc_Database__enter_free (fun vs H Q E h => ?_) (fun cdv A outer s H vs Q E hr h => ?_)
  · obtain ⟨d, p, bs, z, rfl, _⟩ := h
    rfl
  · obtain ⟨d, p, bs, z, rfl, hd, k⟩ := h
    refine ⟨_, (pss_cons (ps_if (pt_cmpR op_eq (pv 1) (ClX.pe_cval (pe_glob (v := .ref _) rfl M.mo rfl)) (nomark _))
  (pss_one (ps_raise rfl (takes_of rfl rfl rfl rfl) (pmk_ed E_M kM hr (by decide) rfl (pa_cons (pv 1) pa_nil))))
  pss_nil)
  (pss_cons (ps_if (pt_cmpR op_in_seq (pv 1) (pe_tup (pa_cons (ClX.pe_cval (pe_glob (v := .ref _) rfl M.mo rfl)) (pa_cons (ClX.pe_cval (pe_glob (v := .ref _) rfl M.mo rfl)) (pa_cons (ClX.pe_cval (pe_glob (v := .ref _) rfl M.mo rfl)) pa_nil)))) (by rfl))
  (pss_one (ps_ret (pe_gv B.gN rfl)))
  pss_nil)
  (pss_cons (ps_fld (pv 0) (pe_mk0 C_T hr (by decide) rfl) rfl)
  (pss_one (ps_ret (pe_gv B.gE rfl)))))), ?_⟩
    obtain ⟨u4, c4⟩ := M.con "MUST" "must" (by simp)
    obtain ⟨u5, c5⟩ := M.con "EITHER" "either" (by simp)
    obtain ⟨u6, c6⟩ := M.con "NEVER" "never" (by simp)
    obtain ⟨u7, c7⟩ := M.con "OUTSIDE" "outside" (by simp)
    refine ⟨_, rfl, C, mc, _, _, rfl, M.rd, c4, rfl, _, rfl, ?_⟩
    refine ite2 (fun e1 => ?_) (fun e1 => ?_)
    · have ek : entF z = .miss := by unfold entF; rw [if_pos e1]
      rw [ek] at k
      exact ⟨_, rfl, mke _ rfl fun x hx => k x _ (Same.new hx) upd_same⟩
    refine ⟨_, rfl, C, mc, _, _, rfl, M.rd, c5, C, mc, _, _, rfl, M.rd, c6, C, mc, _, _, rfl, M.rd, c7, (by show 3 ≤ sizeLine; decide), fun y ny => ?_⟩
    refine ⟨y, _, rfl, .inr (SqT.of upd_same), rfl, rfl, _, rfl, ?_⟩
    rw [show (if false = true then _ else _) = _ from if_neg Bool.false_ne_true]
    refine ite2 (fun e2 => ?_) (fun e2 => ?_)
    · have ek : entF z = .noth := by unfold entF; rw [if_neg e1, if_pos e2]
      rw [ek] at k
      exact k _ (Same.new ny)
    have ek : entF z = .fresh := by unfold entF; rw [if_neg e1, if_neg e2]
    rw [ek] at k
    intro t dx nt nd ne
    refine mk_tr nt nd ne fun H1 q s1 no ns tr => ⟨rfl, ?_⟩
    have s0 := (Same.new (o := .tup [.str "either", .str "never", .str "outside"]) ny).trans s1
    have hd1 := hd.same s0
    have dt := hd1.dt tr
    have i : d ∈ [d] := List.mem_singleton.mpr rfl
    refine ⟨_, rfl, d, c.D, p.dx, _, rfl, hd1.1, B.cD, B.nP, (by show 6 < 1000; decide), ?_⟩
    exact k _ t q ((Kp.same s0).mutAt i) (none_of nt).2 (none_of no).2 (none_of ns).2 (tr.mv (Kp.at_ i) (by simpa using dt.1) (by simpa using dt.2.1) (by simpa using dt.2.2.1)) ⟨upd_same, by rw [upd_ne hd.db]; exact hd1.2⟩
theorem ok_enter_present {f C p g t : Addr} {mc : Value} {fd : FuncData} (F : Fun K "_enter_present" "Database._enter_present" s_Database__enter_present f fd) (T : Bn mg) (B : DbTxt K mg c) (M : ModeTxt K mg C p g t mc) (E_P : EDf P w K mg base 1 "Present" c.P "mode" fsP)
    (E_O : EDf P w K mg base 1 "Doomed" c.O "first" fsD) (kP : PySem.W.keepIn K (.ref c.P) = true) (kO : PySem.W.keepIn K (.ref c.O) = true) (C_T : CDf P w K mg base 1 "Transaction" c.T (spTrInit c)) :
    FnOk P w K mg base (L2.CX P w) 3 f fd ["self", "mode", "present"] (spPres c) := by
  refine F.okX sc_Database__enter_present (fun vs H Q E h => ?_) (fun cdv A outer s H vs Q E hr h => ?_)
  · obtain ⟨d, p, bs, z, t, q, n, f, rfl, _⟩ := h
    rfl
  · obtain ⟨d, p, bs, z, t, q, n, f, rfl, hd, tr, hn, k⟩ := h
    refine ⟨_, (pss_cons (ps_if (pt_cmpR op_in_seq (pv 1) (pe_tup (pa_cons (ClX.pe_cval (pe_glob (v := .ref _) rfl M.mo rfl)) (pa_cons (ClX.pe_cval (pe_glob (v := .ref _) rfl M.mo rfl)) pa_nil))) (by rfl))
  (pss_one (ps_raise rfl (takes_of rfl rfl rfl rfl) (pmk_ed E_P kP hr (by decide) rfl (pa_cons (pv 1) pa_nil))))
  pss_nil)
  (pss_cons (ps_if (pt_cmpR op_in_seq (pv 1) (pe_tup (pa_cons (ClX.pe_cval (pe_glob (v := .ref _) rfl M.mo rfl)) (pa_cons (ClX.pe_cval (pe_glob (v := .ref _) rfl M.mo rfl)) (pa_cons (ClX.pe_cval (pe_glob (v := .ref _) rfl M.mo rfl)) pa_nil)))) (by rfl))
  (pss_one (ps_ret (pe_gv B.gD rfl)))
  pss_nil)
  (pss_cons (ps_if (pt_cmpR op_eq (pv 1) (ClX.pe_cval (pe_glob (v := .ref _) rfl M.mo rfl)) (nomark _))
  (pss_cons (ps_fld (pv 0) pe_non rfl)
  (pss_one (ps_ret (pe_gv B.gN rfl))))
  pss_nil)
  (pss_cons (ps_if (pt_cmpR op_eq (pv 1) (ClX.pe_cval (pe_glob (v := .ref _) rfl M.mo rfl)) (nomark _))
  (pss_cons (ps_fld (pv 0) (pe_mk0 C_T hr (by decide) rfl) rfl)
  (pss_one (ps_ret (pe_gv B.gE rfl))))
  pss_nil)
  (pss_cons (ps_if (pt_cmpR op_notN (pe_fld (pv 2) rfl) pe_non (nomark _))
  (pss_one (ps_raise rfl (takes_of rfl rfl rfl rfl) (pmk_ed E_O kO hr (by decide) rfl (pa_cons (pe_fld (pv 2) rfl) pa_nil))))
  pss_nil)
  (pss_cons (ps_expr (pe_bm PySem.F.plainAttrs_list PySem.F.slot_list_append PySem.F.type_list_append mt_append (pe_fld (pv 2) rfl) (pa_cons (pe_callB call_len_seq (by rfl) T.len PySem.boot_len (pa_cons (pe_fld (pv 2) rfl) pa_nil)) pa_nil)))
  (pss_one (ps_ret (pe_gv B.gE rfl))))))))), ?_⟩
    obtain ⟨u1, c1⟩ := M.con "JOIN" "join" (by simp)
    obtain ⟨u3, c3⟩ := M.con "APART" "apart" (by simp)
    obtain ⟨u4, c4⟩ := M.con "MUST" "must" (by simp)
    obtain ⟨u5, c5⟩ := M.con "EITHER" "either" (by simp)
    obtain ⟨u6, c6⟩ := M.con "NEVER" "never" (by simp)
    obtain ⟨u7, c7⟩ := M.con "OUTSIDE" "outside" (by simp)
    obtain ⟨u8, c8⟩ := M.con "ALONE" "alone" (by simp)
    have i : d ∈ [d] := List.mem_singleton.mpr rfl
    refine ⟨_, rfl, C, mc, _, _, rfl, M.rd, c6, C, mc, _, _, rfl, M.rd, c8, (by show 2 ≤ sizeLine; decide), fun y ny => ?_⟩
    refine ⟨y, _, rfl, .inr (SqT.of upd_same), rfl, rfl, _, rfl, ?_⟩
    have s1 := Same.new (o := .tup [.str "never", .str "alone"]) ny
    rw [show (if false = true then _ else _) = _ from if_neg Bool.false_ne_true]
    refine ite2 (fun e1 => ?_) (fun e1 => ?_)
    · have ek : entP f z = .pres := by unfold entP; rw [if_pos e1]
      rw [ek] at k
      exact ⟨_, rfl, mke _ rfl fun x hx => k x _ (s1.trans (Same.new hx)) upd_same⟩
    refine ⟨_, rfl, C, mc, _, _, rfl, M.rd, c1, C, mc, _, _, rfl, M.rd, c4, C, mc, _, _, rfl, M.rd, c5, (by show 3 ≤ sizeLine; decide), fun y2 ny2 => ?_⟩
    refine ⟨y2, _, rfl, .inr (SqT.of upd_same), rfl, rfl, _, rfl, ?_⟩
    have s2 := s1.trans (Same.new (o := .tup [.str "join", .str "must", .str "either"]) ny2)
    rw [show (if false = true then _ else _) = _ from if_neg Bool.false_ne_true]
    refine ite2 (fun e2 => ?_) (fun e2 => ?_)
    · have ek : entP f z = .dooms := by unfold entP; rw [if_neg e1, if_pos e2]
      rw [ek] at k
      exact k _ s2
    refine ⟨_, rfl, C, mc, _, _, rfl, M.rd, c7, rfl, _, rfl, ?_⟩
    have hd2 := hd.same s2
    have tr2 := tr.same s2
    refine ite2 (fun e3 => ?_) (fun e3 => ?_)
    · have ek : entP f z = .noth := by unfold entP; rw [if_neg e1, if_neg e2, if_pos e3]
      rw [ek] at k
      refine ⟨_, rfl, d, c.D, p.dx, _, rfl, hd2.1, B.cD, B.nP, (by show 6 < 1000; decide), ?_⟩
      exact k _ ((Kp.same s2).mutAt i) ⟨upd_same, by rw [upd_ne hd.db]; exact hd2.2⟩
    refine ⟨_, rfl, C, mc, _, _, rfl, M.rd, c3, rfl, _, rfl, ?_⟩
    refine ite2 (fun e4 => ?_) (fun e4 => ?_)
    · have ek : entP f z = .fresh := by unfold entP; rw [if_neg e1, if_neg e2, if_neg e3, if_pos e4]
      rw [ek] at k
      intro t dx nt nd ne
      refine mk_tr nt nd ne fun H1 q s3 no ns tr => ⟨rfl, ?_⟩
      have s0 := s2.trans s3
      have hd1 := hd.same s0
      have dt := hd1.dt tr
      refine ⟨_, rfl, d, c.D, p.dx, _, rfl, hd1.1, B.cD, B.nP, (by show 6 < 1000; decide), ?_⟩
      exact k _ t q ((Kp.same s0).mutAt i) (none_of (none_of nt).2).2 (none_of (none_of no).2).2 (none_of (none_of ns).2).2 (tr.mv (Kp.at_ i) (by simpa using dt.1) (by simpa using dt.2.1) (by simpa using dt.2.2.1)) ⟨upd_same, by rw [upd_ne hd.db]; exact hd1.2⟩
    refine ⟨_, rfl, t, c.T, q.dx, _, oV f, rfl, tr2.1, B.cT, B.n1, rfl, rfl, _, rfl, ?_⟩
    cases f with
    | some w =>
      have ek : entP (some w) z = .doom w := by unfold entP; rw [if_neg e1, if_neg e2, if_neg e3, if_neg e4]
      rw [ek] at k
      exact ⟨_, rfl, t, c.T, q.dx, _, .str w, rfl, tr2.1, B.cT, B.n1, rfl, mke _ rfl fun x hx => k x _ (s2.trans (Same.new hx)) upd_same⟩
    | none =>
      have ek : entP none z = .inner := by unfold entP; rw [if_neg e1, if_neg e2, if_neg e3, if_neg e4]
      rw [ek] at k
      refine ⟨_, rfl, t, c.T, q.dx, _, .ref q.s, rfl, tr2.1, B.cT, B.nS, rfl, .inl ⟨rfl, _, SqL.of tr2.2.2.1⟩, ?_⟩
      refine ⟨_, rfl, t, c.T, q.dx, _, .ref q.o, rfl, tr2.1, B.cT, B.nO, rfl, q.o, _, rfl, .inl (SqL.of tr2.2.1), ?_⟩
      refine ⟨q.s, _, _, rfl, rfl, tr2.2.2.1, ?_, ?_⟩
      · exact small1000 (by rw [List.length_replicate]; exact hn)
      have dt := hd2.dt tr2
      have j : q.s ∈ [q.s] := List.mem_singleton.mpr rfl
      refine k _ ((Kp.same s2).mutAt j) ⟨?_, ?_, ?_, tr.2.2.2⟩
      · rw [upd_ne dt.2.2.2.2.2.symm]
        exact tr2.1
      · rw [upd_ne tr.2.2.2]
        exact tr2.2.1
      · rw [upd_same, List.replicate_succ']
        rfl
end
end IC
namespace IC
open PySem L2 TL
section
variable {P : Program} {w : World} {K : PySem.W.Frag} {mg : Str → Option Value} {base : Heap} {c : Cs}
theorem ok_enter {f C p g t : Addr} {mc : Value} {fd fdm : FuncData} (F : Fun K "enter" "Database.enter" s_Database_enter f fd) (B : DbTxt K mg c) (M : ModeTxt K mg C p g t mc) (F_is_mode : FnOk P w K mg base CX0 1 g fdm ["thing"] (spIsMode K)) (b_is_mode : Binds K fdm ["thing"] [])
    (M_enter_free : MDf P w K mg base (L2.CX P w) 3 c.D "_enter_free" ["self", "mode"] [] (spFree c)) (M_enter_present : MDf P w K mg base (L2.CX P w) 3 c.D "_enter_present" ["self", "mode", "present"] [] (spPres c)) :
    FnOk P w K mg base (L2.CX P w) 4 f fd ["self", "mode"] (spEnter c) := by
  refine F.okX sc_Database_enter (fun vs H Q E h => ?_) (fun cdv A outer s H vs Q E hr h => ?_)
  · obtain ⟨d, p, bs, z, uP, n, f, rfl, _⟩ := h
    rfl
  · obtain ⟨d, p, bs, z, uP, n, f, rfl, hz, hd, hp, hb, hn, k⟩ := h
    refine ⟨_, (pss_cons (ps_if (pt_not (pt_val (pe_smeth (pe_glob (v := .ref _) rfl M.mo rfl) M.sm F_is_mode b_is_mode hr (by decide) (pa_cons (pv 1) pa_nil))))
  (pss_one ps_dead)
  pss_nil)
  (pss_cons (ps_set (i := 2) sc_Database_enter.nd rfl (Or.inl rfl) (pe_fld (pv 0) rfl))
  (Evl.pss_cut (ps_if (pt_cmpR op_isN (pv 2) pe_non (nomark _))
  (pss_one (ps_set (i := 3) sc_Database_enter.nd rfl (Or.inl rfl) (pe_mdX M_enter_free B.cD (takes_of rfl rfl rfl rfl) hr (by decide) (pv 0) (pa_cons (pv 1) pa_nil))))
  (pss_one (ps_set (i := 3) sc_Database_enter.nd rfl (Or.inl rfl) (pe_mdX M_enter_present B.cD (takes_of rfl rfl rfl rfl) hr (by decide) (pv 0) (pa_cons (pv 1) (pa_cons (pv 2) pa_nil))))))
  (pss_one (ps_expr (pe_bm PySem.F.plainAttrs_list PySem.F.slot_list_append PySem.F.type_list_append mt_append (pe_fld (pv 0) rfl) (pa_cons (pe_tup (pa_cons (pv 3) (pa_cons (pv 2) pa_nil))) pa_nil))))))), ?_⟩
    refine ⟨rfl, _, rfl, _, rfl, .inl ⟨z, rfl, ?_⟩⟩
    rw [mode_in hz]
    refine ⟨true, rfl, iteF ?_⟩
    refine ⟨_, rfl, d, c.D, p.dx, _, uP, rfl, hd.1, B.cD, B.nP, rfl, ?_⟩
    refine ⟨fun σ' H' => ∃ (eff : Str) (uP' : V), σ' = [some (.ref d), some (.str z), some uP, some (.str eff)] ∧ DbAt c.D H' d p uP' bs ∧ (∀ y, H' y = none → DbAt c.D (upd (upd H' y (.tup [.str eff, uP])) p.b (.lst (bs ++ [.ref y]))) d p uP' (bs ++ [.ref y]) →
      upd (upd H' y (.tup [.str eff, uP])) p.b (.lst (bs ++ [.ref y])) y = some (.tup [.str eff, uP]) → Kp [p.b] H' (upd (upd H' y (.tup [.str eff, uP])) p.b (.lst (bs ++ [.ref y]))) → Q .non (upd (upd H' y (.tup [.str eff, uP])) p.b (.lst (bs ++ [.ref y])))), ?_, ?_⟩
    · have i1 : d ∈ [d, p.b] := by simp
      have i2 : p.b ∈ [d, p.b] := by simp
      have sb1 : ∀ x, x ∈ [d] → x ∈ [d, p.b] := by simp
      have sb2 : ∀ x, x ∈ [p.b] → x ∈ [d, p.b] := by simp
      rcases hp with ⟨rfl, rfl, rfl⟩ | ⟨n0, t, q, rfl, tr, no, ns⟩
      · refine ⟨_, rfl, rfl, _, rfl, iteT ?_⟩
        refine ⟨_, rfl, d, p.dx, _, rfl, hd.1, rfl, _, rfl, d, p, bs, z, rfl, hd, ?_⟩
        have k' : EnQ c H d p bs z .non 0 Q E (entF z) := k
        clear k
        revert k'
        cases entF z with
        | miss => exact fun k => k
        | noth => exact fun k H' s => ⟨_, _, rfl, hd.same s, fun y ny h1 h2 h3 => k _ y ((Kp.same s).trans (h3.sub sb2)) h1 h2⟩
        | fresh => exact fun k H' t q kp nt no ns tr hd' => ⟨_, _, rfl, hd', fun y ny h1 h2 h3 => by
            have dt := hd'.dt tr
            have nb : ∀ {x : Addr}, H x = none → x ≠ p.b := fun e z => by
              rw [z, hd.2] at e
              cases e
            exact k _ y t q ((kp.sub sb1).trans (h3.sub sb2)) nt no ns (tr.mv h3 (by simpa using nb nt) (by simpa using nb no) (by simpa using nb ns)) h1 h2⟩
        | pres => exact fun _ => trivial
        | doom _ => exact fun _ => trivial
        | dooms => exact fun _ => trivial
        | inner => exact fun _ => trivial
      · refine ⟨_, rfl, rfl, _, rfl, iteF ?_⟩
        refine ⟨_, rfl, d, p.dx, _, rfl, hd.1, rfl, _, rfl, _, rfl, d, p, bs, z, t, q, n, f, rfl, hd, tr, hn, ?_⟩
        have k' : EnQ c H d p bs z (.ref t) n Q E (entP f z) := by
          unfold ent at k
          rw [if_neg (by omega)] at k
          exact k
        clear k
        have f0 : entP f z = .inner → f = none := by
          intro e
          cases f with
          | none => rfl
          | some u =>
            unfold entP at e
            split at e
            · cases e
            · split at e
              · cases e
              · split at e
                · cases e
                · split at e
                  · cases e
                  · cases e
        revert k' f0
        cases entP f z with
        | miss => exact fun _ _ => trivial
        | pres => exact fun k _ => k
        | doom u => exact fun k _ => k
        | noth => exact fun k _ H' kp hd' => ⟨_, _, rfl, hd', fun y ny h1 h2 h3 => k _ y ((kp.sub sb1).trans (h3.sub sb2)) h1 h2⟩
        | dooms => exact fun k _ H' s => ⟨_, _, rfl, hd.same s, fun y ny h1 h2 h3 => k _ y ((Kp.same s).trans h3) h1 h2⟩
        | fresh => exact fun k _ H' t q kp nt no ns tr hd' => ⟨_, _, rfl, hd', fun y ny h1 h2 h3 => by
            have nb : ∀ {x : Addr}, H x = none → x ≠ p.b := fun e z => by
              rw [z, hd.2] at e
              cases e
            exact k _ y t q ((kp.sub sb1).trans (h3.sub sb2)) nt no ns (tr.mv h3 (by simpa using nb nt) (by simpa using nb no) (by simpa using nb ns)) h1 h2⟩
        | inner =>
            intro k fe H' kp tr'
            have fe := fe rfl
            subst fe
            have dt := hd.dt tr
            have hd' := hd.mv kp (by simpa using dt.2.2.1.symm) (by simpa using ns.symm)
            refine ⟨_, _, rfl, hd', fun y ny h1 h2 h3 => ?_⟩
            exact k _ y t q rfl tr no ns ((kp.sub (by simp)).trans (h3.sub (by simp))) (tr'.mv h3 (by simpa using dt.2.2.2.1) (by simpa using no) (by simpa using ns)) h1 h2
    · rintro σ' H' ⟨eff, uP', rfl, hd', k'⟩
      refine ⟨_, rfl, d, c.D, p.dx, _, _, rfl, hd'.1, B.cD, B.nB, rfl, .inl ⟨rfl, _, SqL.of hd'.2⟩, ?_⟩
      refine ⟨_, rfl, _, rfl, (by show 2 ≤ sizeLine; decide), fun y ny => ?_⟩
      have pb := put_block (ts := [.str eff, uP]) hd' ny
      exact ⟨p.b, _, _, rfl, rfl, (by rw [upd_ne (ne_of_none hd'.2 ny)]; exact hd'.2), small1000 hb, k' y ny pb.1 pb.2.1 pb.2.2⟩
theorem ok_reason {f : Addr} {fd : FuncData} (F : Fun K "reason" "Database.reason" s_Database_reason f fd) (B : DbTxt K mg c) : FnOk P w K mg base CX0 1 f fd ["self"] (spGet c fun _ f _ => oV f) := by
  refine F.ok sc_Database_reason (fun vs H Q E h => ?_) (fun cdv A outer s H vs Q E hr h => ?_)
  · obtain ⟨d, p, bs, uP, n, f, rfl, _⟩ := h
    rfl
  · obtain ⟨d, p, bs, uP, n, f, rfl, hd, hp, hb, hn, k⟩ := h
    refine ⟨_, (pss_cons (ps_if (pt_cmpR op_isN (pe_fld (pv 0) rfl) pe_non (nomark _))
  (pss_one (ps_ret pe_non))
  pss_nil)
  (pss_one (ps_ret (pe_fld (pe_fld (pv 0) rfl) rfl)))), ?_⟩
    refine ⟨_, rfl, d, c.D, p.dx, _, uP, rfl, hd.1, B.cD, B.nP, rfl, rfl, _, rfl, ?_⟩
    rcases hp with ⟨rfl, rfl, rfl⟩ | ⟨n0, t, q, rfl, tr, no, ns⟩
    · exact k
    · exact ⟨_, rfl, d, c.D, p.dx, _, _, rfl, hd.1, B.cD, B.nP, rfl, t, c.T, q.dx, _, _, rfl, tr.1, B.cT, B.n1, rfl, k⟩
theorem ok_is_open {f : Addr} {fd : FuncData} (F : Fun K "is_open" "Database.is_open" s_Database_is_open f fd) (B : DbTxt K mg c) : FnOk P w K mg base CX0 1 f fd ["self"] (spGet c fun n _ _ => .bl (decide (0 < n))) := by
  refine F.ok sc_Database_is_open (fun vs H Q E h => ?_) (fun cdv A outer s H vs Q E hr h => ?_)
  · obtain ⟨d, p, bs, uP, n, f, rfl, _⟩ := h
    rfl
  · obtain ⟨d, p, bs, uP, n, f, rfl, hd, hp, hb, hn, k⟩ := h
    refine ⟨_, (pss_one (ps_ret (pe_cmpR op_notN (pe_fld (pv 0) rfl) pe_non (nomark _)))), ?_⟩
    refine ⟨_, rfl, d, c.D, p.dx, _, uP, rfl, hd.1, B.cD, B.nP, rfl, rfl, ?_⟩
    rcases hp with ⟨rfl, rfl, rfl⟩ | ⟨n0, t, q, rfl, tr, no, ns⟩
    · exact k
    · dsimp only at k
      rw [decide_eq_true n0] at k
      exact k
theorem ok_is_doomed {f : Addr} {fd : FuncData} (F : Fun K "is_doomed" "Database.is_doomed" s_Database_is_doomed f fd) (B : DbTxt K mg c) (P_reason : PDf P w K mg base 1 c.D "reason" (spGet c fun _ f _ => oV f)) :
    FnOk P w K mg base CX0 3 f fd ["self"] (spGet c fun _ f _ => .bl (!decide (oV f = .non))) := by
  refine F.ok sc_Database_is_doomed (fun vs H Q E h => ?_) (fun cdv A outer s H vs Q E hr h => ?_)
  · obtain ⟨d, p, bs, uP, n, f, rfl, _⟩ := h
    rfl
  · obtain ⟨d, p, bs, uP, n, f, rfl, hd, hp, hb, hn, k⟩ := h
    refine ⟨_, (pss_one (ps_ret (pe_cmpR op_notN (pe_pd P_reason B.cD hr (by decide) (pv 0)) pe_non (nomark _)))), ?_⟩
    exact ⟨_, rfl, d, p.dx, _, rfl, hd.1, d, p, bs, uP, n, f, rfl, hd, hp, hb, hn, rfl, k⟩
theorem ok_levels {f : Addr} {fd : FuncData} (F : Fun K "levels" "Database.levels" s_Database_levels f fd) (T : Bn mg) (B : DbTxt K mg c) : FnOk P w K mg base CX0 1 f fd ["self"] (spGet c fun n _ _ => .int n) := by
  refine F.ok sc_Database_levels (fun vs H Q E h => ?_) (fun cdv A outer s H vs Q E hr h => ?_)
  · obtain ⟨d, p, bs, uP, n, f, rfl, _⟩ := h
    rfl
  · obtain ⟨d, p, bs, uP, n, f, rfl, hd, hp, hb, hn, k⟩ := h
    refine ⟨_, (pss_cons (ps_if (pt_cmpR op_isN (pe_fld (pv 0) rfl) pe_non (nomark _))
  (pss_one (ps_ret pe_int))
  pss_nil)
  (pss_one (ps_ret (pe_callB call_len_seq (by rfl) T.len PySem.boot_len (pa_cons (pe_fld (pe_fld (pv 0) rfl) rfl) pa_nil))))), ?_⟩
    refine ⟨_, rfl, d, c.D, p.dx, _, uP, rfl, hd.1, B.cD, B.nP, rfl, rfl, _, rfl, ?_⟩
    rcases hp with ⟨rfl, rfl, rfl⟩ | ⟨n0, t, q, rfl, tr, no, ns⟩
    · exact k
    · refine ⟨_, rfl, d, c.D, p.dx, _, _, rfl, hd.1, B.cD, B.nP, rfl, t, c.T, q.dx, _, _, rfl, tr.1, B.cT, B.nS, rfl, q.s, _, rfl, .inl (SqL.of tr.2.2.1), ?_⟩
      rw [List.length_replicate]
      exact k
theorem ok_depth {f : Addr} {fd : FuncData} (F : Fun K "depth" "Database.depth" s_Database_depth f fd) (T : Bn mg) (B : DbTxt K mg c) : FnOk P w K mg base CX0 1 f fd ["self"] (spGet c fun _ _ m => .int m) := by
  refine F.ok sc_Database_depth (fun vs H Q E h => ?_) (fun cdv A outer s H vs Q E hr h => ?_)
  · obtain ⟨d, p, bs, uP, n, f, rfl, _⟩ := h
    rfl
  · obtain ⟨d, p, bs, uP, n, f, rfl, hd, hp, hb, hn, k⟩ := h
    refine ⟨_, (pss_one (ps_ret (pe_callB call_len_seq (by rfl) T.len PySem.boot_len (pa_cons (pe_fld (pv 0) rfl) pa_nil)))), ?_⟩
    exact ⟨_, rfl, d, c.D, p.dx, _, _, rfl, hd.1, B.cD, B.nB, rfl, p.b, _, rfl, .inl (SqL.of hd.2), k⟩
end
end IC
namespace IC
open PySem L2 TL
section
variable {P : Program} {w : World} {K : PySem.W.Frag} {mg : Str → Option Value} {base : Heap} {c : Cs}
theorem ok_keep {f : Addr} {fd : FuncData} (F : Fun K "_keep" "Database._keep" s_Database__keep f fd) (B : DbTxt K mg c) : FnOk P w K mg base CX0 1 f fd ["self", "transaction"] (spKeep c) := by
  refine F.ok sc_Database__keep (fun vs H Q E h => ?_) (fun cdv A outer s H vs Q E hr h => ?_)
  · obtain ⟨d, t, q, f, n, rfl, _⟩ := h
    rfl
  · obtain ⟨d, t, q, f, n, rfl, tr, k⟩ := h
    refine ⟨_, (pss_one (ps_for PassesOwn.never rfl (pi_list (pe_fld (pv 1) rfl)) (pg_name (i := 2) sc_Database__keep.nd rfl (Or.inl rfl))
  pss_dead)), ?_⟩
    refine ⟨_, rfl, t, c.T, q.dx, _, _, rfl, tr.1, B.cT, B.nO, rfl, q.o, rfl, ⟨_, SqL.of tr.2.1⟩, for_list (K := K) (a := q.o) (xs := []) (tb := fun _ _ _ => False) (fun i σ H' => H' = H) rfl (fun i σ H' _ e => ?_) (fun i x σ H' hi => ?_) (fun σ H' e => ?_)⟩
    · subst e
      exact SqL.of tr.2.1
    · simp at hi
    · subst e
      exact k
theorem ok_end_level {f : Addr} {fd : FuncData} (F : Fun K "_end_level" "Database._end_level" s_Database__end_level f fd) (B : DbTxt K mg c) (M_keep : MDf P w K mg base CX0 1 c.D "_keep" ["self", "transaction"] [] (spKeep c)) :
    FnOk P w K mg base CX0 2 f fd ["self", "transaction", "error", "commits"] (spEndLevel c) := by
  refine F.ok sc_Database__end_level (fun vs H Q E h => ?_) (fun cdv A outer s H vs Q E hr h => ?_)
  · obtain ⟨d, t, p, uP, bs, q, n, rfl, _⟩ := h
    rfl
  · obtain ⟨d, t, p, uP, bs, q, n, rfl, hn, hd, ns, tr, k⟩ := h
    refine ⟨_, (pss_cons (ps_set (i := 4) sc_Database__end_level.nd rfl (Or.inl rfl) (pe_bm0 PySem.F.plainAttrs_list PySem.F.slot_list_pop PySem.F.type_list_pop mt_pop (pe_fld (pv 1) rfl)))
  (pss_cons (ps_set (i := 5) sc_Database__end_level.nd rfl (Or.inl rfl) (pe_fld (pv 1) rfl))
  (pss_cons (ps_fld (pv 1) pe_non rfl)
  (pss_cons (ps_if (PW.pt (pw_or (pt_cmpR op_notN (pv 2) pe_non (nomark _)) (pw_or1 (pt_cmpR op_notN (pv 5) pe_non (nomark _)))))
  pss_dead
  pss_nil)
  (pss_cons (ps_if (pt_truth (pe_fld (pv 1) rfl) (by intro _; rfl))
  (pss_one (ps_ret pe_str))
  pss_nil)
  (pss_cons (ps_if (pt_not (pt_val (pv 3)))
  pss_dead
  pss_nil)
  (pss_cons (ps_expr (pe_md M_keep B.cD hr (by decide) (pv 0) (pa_cons (pv 1) pa_nil)))
  (pss_one (ps_ret pe_str))))))))), ?_⟩
    have dt := hd.dt tr
    have e0 : (List.replicate (n + 1) (V.int 0)).dropLast = List.replicate n (V.int 0) := by
      rw [List.replicate_succ', List.dropLast_concat]
    refine ⟨_, rfl, t, c.T, q.dx, _, _, rfl, tr.1, B.cT, B.nS, rfl, .inl ⟨rfl, _, SqL.of tr.2.2.1⟩, q.s, _, .int 0, rfl, rfl, tr.2.2.1, ?_, ?_⟩
    · rw [List.length_replicate, List.getElem?_replicate, if_pos (by omega)]
    rw [e0]
    have t1 : upd H q.s (.lst (List.replicate n (.int 0))) t = some (.ins c.T q.dx (trf q.o q.s .non)) := by
      rw [upd_ne dt.2.2.2.2.2.symm]
      exact tr.1
    have d1 : upd H q.s (.lst (List.replicate n (.int 0))) d = some (.ins c.D p.dx (dbf uP p.b p.m p.h p.k)) := by
      rw [upd_ne dt.2.2.1.symm]
      exact hd.1
    refine ⟨_, rfl, t, c.T, q.dx, _, _, rfl, t1, B.cT, B.n1, rfl, ?_⟩
    refine ⟨_, rfl, t, c.T, q.dx, _, rfl, t1, B.cT, B.n1, (by show 3 < 1000; decide), ?_⟩
    refine ⟨_, rfl, rfl, _, rfl, iteF ⟨_, rfl, rfl, _, rfl, iteF ?_⟩⟩
    have kp : Kp [t, q.s] H (upd (upd H q.s (.lst (List.replicate n (.int 0)))) t (.ins c.T q.dx (trf q.o q.s .non))) := (Kp.at_ (by simp)).mutAt (by simp)
    have tr' : TrAt c.T (upd (upd H q.s (.lst (List.replicate n (.int 0)))) t (.ins c.T q.dx (trf q.o q.s .non))) t q n .non := by
      refine ⟨upd_same, ?_, ?_, tr.2.2.2⟩
      · rw [upd_ne dt.2.2.2.2.1, upd_ne tr.2.2.2]
        exact tr.2.1
      · rw [upd_ne dt.2.2.2.2.2, upd_same]
    refine ⟨_, rfl, t, c.T, q.dx, _, _, rfl, upd_same, B.cT, B.nS, rfl, _, .inl ⟨_, SqL.of tr'.2.2.1, rfl⟩, ?_⟩
    cases n with
    | succ m => exact iteT (k _ kp tr')
    | zero =>
      refine iteF ?_
      refine ⟨_, rfl, true, rfl, iteF ?_⟩
      refine ⟨_, rfl, d, p.dx, _, rfl, (by rw [upd_ne dt.1.symm]; exact d1), rfl, _, rfl, d, t, q, .non, 0, rfl, tr', ?_⟩
      exact k _ kp tr'
theorem ok_end_block {f : Addr} {fd : FuncData} (F : Fun K "_end_block" "Database._end_block" s_Database__end_block f fd) (B : DbTxt K mg c) (M_end_level : MDf P w K mg base CX0 2 c.D "_end_level" ["self", "transaction", "error", "commits"] [] (spEndLevel c)) :
    FnOk P w K mg base CX0 3 f fd ["self", "error", "commits"] (spEndBlock c) := by
  refine F.ok sc_Database__end_block (fun vs H Q E h => ?_) (fun cdv A outer s H vs Q E hr h => ?_)
  · obtain ⟨d, p, bs, y, eff, bv, uP, rfl, _⟩ := h
    rfl
  · obtain ⟨d, p, bs, y, eff, bv, uP, rfl, hd, hy, hb, k⟩ := h
    refine ⟨_, (pss_cons (ps_asg (pe_bm0 PySem.F.plainAttrs_list PySem.F.slot_list_pop PySem.F.type_list_pop mt_pop (pe_fld (pv 0) rfl)) (pg_tup rfl (pgs_cons (pg_name (i := 3) sc_Database__end_block.nd rfl (Or.inl rfl)) (pgs_cons (pg_name (i := 4) sc_Database__end_block.nd rfl (Or.inl rfl)) pgs_nil))))
  (pss_cons (ps_set (i := 5) sc_Database__end_block.nd rfl (Or.inl rfl) (pe_fld (pv 0) rfl))
  (pss_cons (ps_fld (pv 0) (pv 4) rfl)
  (pss_cons (ps_if (pt_cmpR op_eq (pv 3) (pe_gv B.gE rfl) (nomark _))
  (pss_one (ps_ret (pe_md M_end_level B.cD hr (by decide) (pv 0) (pa_cons (pv 5) (pa_cons (pv 1) (pa_cons (pv 2) pa_nil))))))
  pss_nil)
  (pss_cons (ps_if (PW.pt (pw_and (pt_cmpR op_eq (pv 3) (pe_gv B.gD rfl) (nomark _)) (pw_and1 (pt_cmpR op_notN (pv 1) pe_non (nomark _)))))
  pss_dead
  pss_nil)
  (pss_one (ps_ret pe_str))))))), ?_⟩
    have yb : y ≠ p.b := fun e => by
      have z := hy
      rw [e, hd.2] at z
      cases z
    have yd : y ≠ d := fun e => by
      have z := hy
      rw [e, hd.1] at z
      cases z
    refine ⟨_, rfl, d, c.D, p.dx, _, _, rfl, hd.1, B.cD, B.nB, rfl, .inl ⟨rfl, _, SqL.of hd.2⟩, p.b, _, .ref y, rfl, rfl, hd.2, ?_, ?_⟩
    · rw [List.length_append, List.length_singleton, Nat.add_sub_cancel, List.getElem?_append_right (Nat.le_refl _), Nat.sub_self]
      rfl
    rw [List.dropLast_concat]
    refine ⟨y, _, rfl, SqT.of (by rw [upd_ne yb]; exact hy), rfl, _, _, rfl, _, _, rfl, rfl, ?_⟩
    have d1 : upd H p.b (.lst bs) d = some (.ins c.D p.dx (dbf uP p.b p.m p.h p.k)) := by
      rw [upd_ne hd.db.symm]
      exact hd.1
    refine ⟨_, rfl, d, c.D, p.dx, _, _, rfl, d1, B.cD, B.nP, rfl, ?_⟩
    refine ⟨_, rfl, _, rfl, d, c.D, p.dx, _, rfl, d1, B.cD, B.nP, (by show 6 < 1000; decide), ?_⟩
    have kp : Kp [d, p.b] H (upd (upd H p.b (.lst bs)) d (.ins c.D p.dx (dbf bv p.b p.m p.h p.k))) := (Kp.at_ (by simp)).mutAt (by simp)
    have hd' : DbAt c.D (upd (upd H p.b (.lst bs)) d (.ins c.D p.dx (dbf bv p.b p.m p.h p.k))) d p bv bs := ⟨upd_same, by rw [upd_ne hd.db, upd_same]⟩
    refine ⟨_, rfl, rfl, _, rfl, ?_⟩
    rcases k with ⟨he | he, k⟩ | ⟨he, t, q, n, rfl, hn, no, ns, tr, k⟩
    · subst he
      exact iteF ⟨_, rfl, rfl, _, rfl, iteF (iteF (k _ kp hd'))⟩
    · subst he
      exact iteF ⟨_, rfl, rfl, _, rfl, iteT ⟨_, rfl, rfl, _, rfl, iteF (k _ kp hd')⟩⟩
    · subst he
      have dt := hd.dt tr
      have tr' := tr.mv kp (by simpa using ⟨dt.1, dt.2.2.2.1⟩) (by simpa using ⟨dt.2.1, no⟩) (by simpa using ⟨dt.2.2.1, ns⟩)
      refine iteT ⟨_, rfl, d, p.dx, _, rfl, upd_same, rfl, _, rfl, _, rfl, _, rfl, d, t, p, bv, bs, q, n, rfl, hn, hd', ns, tr', fun H' kp' tr2 => ?_⟩
      exact k H' ((kp.sub (by simp)).trans (kp'.sub (by simp))) (hd'.mv kp' (by simpa using ⟨dt.1.symm, dt.2.2.1.symm⟩) (by simpa using ⟨dt.2.2.2.1.symm, ns.symm⟩)) tr2
theorem ok_leave {f : Addr} {fd : FuncData} {dvs : List V} {kws : List (Str × V)} (F : FunD K "leave" "Database.leave" (defArgs s_Database_leave) (defBody s_Database_leave) (defScope s_Database_leave) dvs kws f fd) (T : Bn mg) (B : DbTxt K mg c) (P_reason : PDf P w K mg base 1 c.D "reason" (spGet c fun _ f _ => oV f))
    (M_end_block : MDf P w K mg base CX0 3 c.D "_end_block" ["self", "error", "commits"] [] (spEndBlock c)) : FnOk P w K mg base CX0 4 f fd ["self", "error", "commits"] (spLeave c) := by
  refine F.ok sc_Database_leave (fun vs H Q E h => ?_) (fun cdv A outer s H vs Q E hr h => ?_)
  · obtain ⟨d, p, bs, y, eff, bv, uP, n, f, rfl, _⟩ := h
    rfl
  · obtain ⟨d, p, bs, y, eff, bv, uP, n, f, rfl, hd, hp, hn, hy, hb, k⟩ := h
    refine ⟨_, (pss_cons (ps_if (pt_cmpR op_eq (pe_callB call_len_seq (by rfl) T.len PySem.boot_len (pa_cons (pe_fld (pv 0) rfl) pa_nil)) (pe_fld (pv 0) rfl) (nomark _))
  pss_dead
  pss_nil)
  (pss_cons (ps_if (PW.pt (pw_and (pt_cmpR op_notN (pv 1) pe_non (nomark _)) (pw_and1 pt_dead)))
  pss_dead
  pss_nil)
  (pss_cons (ps_set (i := 3) sc_Database_leave.nd rfl (Or.inl rfl) (pe_pd P_reason B.cD hr (by decide) (pv 0)))
  (pss_cons (ps_set (i := 4) sc_Database_leave.nd rfl (Or.inl rfl) (pe_md M_end_block B.cD hr (by decide) (pv 0) (pa_cons (pv 1) (pa_cons (pv 2) pa_nil))))
  (pss_cons (ps_if (pt_cmpR op_eq (pv 4) pe_str (nomark _))
  pss_dead
  pss_nil)
  (pss_one (ps_if (pt_cmpR op_eq (pv 4) pe_str (nomark _))
  pss_dead
  pss_nil))))))), ?_⟩
    refine ⟨_, rfl, d, c.D, p.dx, _, _, rfl, hd.1, B.cD, B.nB, rfl, p.b, _, rfl, .inl (SqL.of hd.2), _, rfl, d, c.D, p.dx, _, _, rfl, hd.1, B.cD, B.nF, rfl, rfl, _, rfl, ?_⟩
    have e0 : decide (V.int ((bs ++ [V.ref y]).length : Int) = V.int 0) = false := by
      rw [decide_eq_false_iff_not]
      intro e
      injection e with e
      rw [List.length_append, List.length_singleton] at e
      omega
    rw [e0]
    refine iteF ?_
    refine ⟨_, rfl, rfl, _, rfl, iteF (iteF ?_)⟩
    have hl : (bs ++ [V.ref y]).length ≤ 1000 := by
      rw [List.length_append, List.length_singleton]
      omega
    refine ⟨_, rfl, d, p.dx, _, rfl, hd.1, d, p, _, uP, n, f, rfl, hd, hp, hl, hn, ?_⟩
    refine ⟨_, rfl, d, p.dx, _, rfl, hd.1, rfl, _, rfl, _, rfl, d, p, bs, y, eff, bv, uP, rfl, hd, hy, by omega, ?_⟩
    rcases k with ⟨he, k⟩ | ⟨he, t, q, m, e1, hm, no, ns, tr, k⟩
    · exact .inl ⟨he, fun H' k1 k2 => ⟨_, rfl, rfl, _, rfl, iteF ⟨_, rfl, rfl, _, rfl, iteF (k H' k1 k2)⟩⟩⟩
    · exact .inr ⟨he, t, q, m, e1, hm, no, ns, tr, fun H' k1 k2 k3 => ⟨_, rfl, rfl, _, rfl, iteF ⟨_, rfl, rfl, _, rfl, iteF (k H' k1 k2 k3)⟩⟩⟩
theorem ok_doom {f : Addr} {fd : FuncData} {dvs : List V} {kws : List (Str × V)} (F : FunD K "doom" "Database.doom" (defArgs s_Database_doom) (defBody s_Database_doom) (defScope s_Database_doom) dvs kws f fd) (B : DbTxt K mg c) (D_is_word : Df P w K mg base 1 "is_word" ["thing"] (spIsWord K))
    (M_tdoom : MDf P w K mg base CX0 1 c.T "doom" ["self", "first"] [] (spTrDoom c)) : FnOk P w K mg base CX0 2 f fd ["self", "first"] (spDbDoom c K) := by
  refine F.ok sc_Database_doom (fun vs H Q E h => ?_) (fun cdv A outer s H vs Q E hr h => ?_)
  · obtain ⟨d, p, bs, uP, n, f, w, rfl, _⟩ := h
    rfl
  · obtain ⟨d, p, bs, uP, n, f, w, rfl, hw, hd, hp, k⟩ := h
    refine ⟨_, (pss_cons (ps_if (pt_not (pt_val (pe_df D_is_word hr (by decide) rfl (pa_cons (pv 1) pa_nil))))
  pss_dead
  pss_nil)
  (pss_one (ps_if (pt_cmpR op_notN (pe_fld (pv 0) rfl) pe_non (nomark _))
  (pss_one (ps_expr (pe_md M_tdoom B.cT hr (by decide) (pe_fld (pv 0) rfl) (pa_cons (pv 1) pa_nil))))
  pss_nil))), ?_⟩
    refine ⟨_, rfl, _, rfl, .inl ⟨w, rfl, by have := hw.2.1; omega, fun H1 s1 => ⟨_, rfl, ?_⟩⟩⟩
    rw [wB_of hw]
    refine iteF ?_
    have hd1 := hd.same s1
    rcases hp with ⟨rfl, rfl, rfl⟩ | ⟨n0, t, q, rfl, tr, no, ns⟩
    · rcases k with ⟨_, k⟩ | ⟨n0, _⟩
      · exact ⟨_, rfl, d, c.D, p.dx, _, _, rfl, hd1.1, B.cD, B.nP, rfl, rfl, _, rfl, iteF (k H1 s1)⟩
      · exact absurd n0 (by omega)
    · rcases k with ⟨n1, _⟩ | ⟨_, k⟩
      · exact absurd n0 (by omega)
      · refine ⟨_, rfl, d, c.D, p.dx, _, _, rfl, hd1.1, B.cD, B.nP, rfl, rfl, _, rfl, iteT ?_⟩
        exact ⟨_, rfl, d, c.D, p.dx, _, _, rfl, hd1.1, B.cD, B.nP, rfl, t, q.dx, _, rfl, s1 _ _ tr.1, rfl, _, rfl, t, q, n, f, w, rfl, tr.same s1, fun H2 kp tr2 => k H2 t q rfl tr ((Kp.same s1).trans kp) tr2⟩
end
end IC
namespace IC
open PySem L2 TL
section
variable {P : Program} {w : World} {K : PySem.W.Frag} {mg : Str → Option Value} {base : Heap} {c : Cs}
theorem ok_entered {f : Addr} {fd : FuncData} (F : Fun K "_law_entered" "_law_entered" s_law_entered f fd) : FnOk P w K mg base CX0 1 f fd ["stack", "mode"] spEntered := by
  refine F.ok sc_law_entered (fun vs H Q E h => ?_) (fun cdv A outer s H vs Q E hr h => ?_)
  · obtain ⟨sa, _, z, l, m, rfl, _⟩ := h
    rfl
  · obtain ⟨sa, bb, z, l, m, rfl, hz, ⟨xs, r, h1, h2, hm, nsb, nrb⟩, hbb, hm5, hl5, hk, k⟩ := h
    refine ⟨_, (pss_cons (ps_set (i := 2) sc_law_entered.nd rfl (Or.inl rfl) (pe_ix ix_list (pv 0) (pe_un un_neg pe_int) (fun _ _ => rfl)))
  (pss_cons (ps_if (pt_cmpR (op_eqD hr.units) (pv 2) (pe_lst pa_nil) (nomark _))
  (pss_cons (ps_if (pt_cmpR op_eq (pv 1) pe_str (nomark _))
  (pss_one (ps_ret (pe_tup (pa_cons (pe_tup (pa_cons pe_str (pa_cons (pv 1) pa_nil))) (pa_cons (pv 0) pa_nil)))))
  pss_nil)
  (pss_cons (ps_if (pt_cmpR op_in_seq (pv 1) (pe_lst (pa_cons pe_str (pa_cons pe_str (pa_cons pe_str pa_nil)))) (by rfl))
  (pss_one (ps_ret (pe_tup (pa_cons pe_non (pa_cons (pv 0) pa_nil)))))
  pss_nil)
  (pss_one (ps_ret (pe_tup (pa_cons pe_non (pa_cons (pe_op op_cat (pv 0) (pe_lst (pa_cons (pe_lst (pa_cons pe_non pa_nil)) pa_nil))) pa_nil)))))))
  pss_nil)
  (pss_cons (ps_if (pt_cmpR op_in_seq (pv 1) (pe_lst (pa_cons pe_str (pa_cons pe_str pa_nil))) (by rfl))
  (pss_one (ps_ret (pe_tup (pa_cons (pe_tup (pa_cons pe_str (pa_cons (pv 1) pa_nil))) (pa_cons (pv 0) pa_nil)))))
  pss_nil)
  (pss_cons (ps_if (PW.pt (pw_and (pt_cmpR op_eq (pv 1) pe_str (nomark _)) (pw_and1 (pt_cmpR op_notN (pe_ix ix_list (pv 2) (pe_un un_neg pe_int) (fun _ _ => rfl)) pe_non (nomark _)))))
  (pss_one (ps_ret (pe_tup (pa_cons (pe_tup (pa_cons pe_str (pa_cons (pe_ix ix_list (pv 2) (pe_un un_neg pe_int) (fun _ _ => rfl)) pa_nil))) (pa_cons (pv 0) pa_nil)))))
  pss_nil)
  (pss_cons (ps_if (pt_cmpR op_eq (pv 1) pe_str (nomark _))
  (pss_one (ps_ret (pe_tup (pa_cons pe_non (pa_cons (pe_op op_cat (pe_slice sl_list (pv 0) po_none (po_some (pe_un un_neg pe_int))) (pe_lst (pa_cons (pe_op op_cat (pv 2) (pe_lst (pa_cons pe_non pa_nil))) pa_nil))) pa_nil)))))
  pss_nil)
  (pss_cons (ps_if (pt_cmpR op_eq (pv 1) pe_str (nomark _))
  (pss_one (ps_ret (pe_tup (pa_cons pe_non (pa_cons (pe_op op_cat (pv 0) (pe_lst (pa_cons (pe_lst (pa_cons pe_non pa_nil)) pa_nil))) pa_nil)))))
  pss_nil)
  (pss_cons (ps_if (pt_cmpR op_eq (pv 1) pe_str (nomark _))
  (pss_one (ps_ret (pe_tup (pa_cons pe_non (pa_cons (pe_op op_cat (pv 0) (pe_lst (pa_cons (pe_lst pa_nil) pa_nil))) pa_nil)))))
  pss_nil)
  (pss_one (ps_ret (pe_tup (pa_cons pe_non (pa_cons (pv 0) pa_nil)))))))))))), ?_⟩
    refine ⟨_, rfl, _, rfl, sa, _, _, .ref r, rfl, rfl, SqL.of h1, atI_last xs (.ref r), ?_⟩
    refine ⟨_, rfl, Nat.zero_le _, fun q nq => ?_⟩
    have s0 := Same.new (o := .lst []) nq
    refine ⟨.list (l.map dO), .list [], .lst (SqL.of (s0 _ _ h2)) (dpAll_o l), .lst (SqL.of upd_same) .nil, shaped_o hk, rfl, _, rfl, ?_⟩
    have two : [V.str "", V.str ""].length ≤ sizeLine := by show 2 ≤ sizeLine; decide
    have one : [V.str ""].length ≤ sizeLine := by show 1 ≤ sizeLine; decide
    have hx : xs.length + 1 ≤ sizeLine := Nat.le_of_lt (small1000 (by omega))
    have hx1 : (xs ++ [V.ref r]).length = xs.length + 1 := by rw [List.length_append, List.length_singleton]
    have tupE : ∀ {H1 : Hp} (_ : Same H H1) (a b : Str) (_ : errOf (ent l.length (lastO l) z) z = some (a, b)) (_ : topOf (ent l.length (lastO l) z) l = l) (e : Addr) (_ : H1 e = none) (y : Addr) (_ : upd H1 e (.tup [.str a, .str b]) y = none),
        Q (.ref y) (upd (upd H1 e (.tup [.str a, .str b])) y (.tup [.ref e, .ref sa])) := by
      intro H1 s1 a b e1 e2 e ne y ny
      have s2 := Same.new (o := .tup [.str a, .str b]) ne
      have s3 := Same.new (o := .tup [.ref e, .ref sa]) ny
      refine k _ y sa (.ref e) (s1.trans (s2.trans s3)) ?_ upd_same ?_
      · rw [e1]
        exact ⟨e, rfl, s3 _ _ upd_same⟩
      · rw [e2]
        exact ⟨xs, r, s3 _ _ (s2 _ _ (s1 _ _ h1)), s3 _ _ (s2 _ _ (s1 _ _ h2)), by omega, nsb, nrb⟩
    have tupN : ∀ {H1 : Hp} (_ : Same H H1) (sa' : Addr) (_ : errOf (ent l.length (lastO l) z) z = none) (_ : StAt H1 bb sa' (topOf (ent l.length (lastO l) z) l) (m + 1)) (y : Addr) (_ : H1 y = none), Q (.ref y) (upd H1 y (.tup [.non, .ref sa'])) := by
      intro H1 s1 sa' e1 st y ny
      have s3 := Same.new (o := .tup [.non, .ref sa']) ny
      refine k _ y sa' .non (s1.trans s3) ?_ upd_same (st.same s3)
      rw [e1]
      rfl
    have pushed : ∀ {H1 : Hp} (_ : Same H H1) (ys : List V) (a : Addr) (_ : H1 a = none) (b : Addr) (_ : upd H1 a (.lst ys) b = none) (p : Addr) (_ : upd (upd H1 a (.lst ys)) b (.lst [.ref a]) p = none) (l' : List (Option Str)) (_ : ys = l'.map oV),
        Same H (upd (upd (upd H1 a (.lst ys)) b (.lst [.ref a])) p (.lst ((xs ++ [.ref r]) ++ [.ref a]))) ∧ StAt (upd (upd (upd H1 a (.lst ys)) b (.lst [.ref a])) p (.lst ((xs ++ [.ref r]) ++ [.ref a]))) bb p l' (m + 1) := by
      intro H1 s1 ys a na b nb p np l' e
      have s2 := Same.new (o := .lst ys) na
      have s3 := Same.new (o := .lst [.ref a]) nb
      have s4 := Same.new (o := .lst ((xs ++ [.ref r]) ++ [.ref a])) np
      refine ⟨s1.trans (s2.trans (s3.trans s4)), xs ++ [.ref r], a, upd_same, ?_, by omega, fun z => hbb (s1.free (s2.free (s3.free (by rw [← z]; exact np)))), fun z => hbb (s1.free (by rw [← z]; exact na))⟩
      rw [← e]
      exact s4 _ _ (s3 _ _ upd_same)
    cases l with
    | nil =>
      refine iteT ?_
      refine ⟨_, rfl, rfl, _, rfl, ?_⟩
      refine ite2 (fun e1 => ?_) (fun e1 => ?_)
      · have ek : ent 0 none z = .miss := by unfold ent entF; rw [if_pos rfl, if_pos e1]
        refine ⟨_, rfl, two, fun e ne => ⟨_, rfl, two, fun y ny => tupE s0 "missing" z ?_ ?_ e ne y ny⟩⟩
        · show errOf (ent 0 none z) z = _
          rw [ek]
          rfl
        · show topOf (ent 0 none z) [] = _
          rw [ek]
          rfl
      refine ⟨_, rfl, (by show 3 ≤ sizeLine; decide), fun a na => ?_⟩
      refine ⟨a, _, rfl, .inl (SqL.of upd_same), rfl, rfl, _, rfl, ?_⟩
      rw [show (if false = true then _ else _) = _ from if_neg Bool.false_ne_true]
      have s1 := s0.trans (Same.new (o := .lst [.str "either", .str "never", .str "outside"]) na)
      refine ite2 (fun e2 => ?_) (fun e2 => ?_)
      · have ek : ent 0 none z = .noth := by unfold ent entF; rw [if_pos rfl, if_neg e1, if_pos e2]
        refine ⟨_, rfl, two, fun y ny => tupN s1 sa ?_ ?_ y ny⟩
        · show errOf (ent 0 none z) z = _
          rw [ek]
          rfl
        · show StAt _ bb sa (topOf (ent 0 none z) []) _
          rw [ek]
          exact ⟨xs, r, s1 _ _ h1, s1 _ _ h2, by omega, nsb, nrb⟩
      · have ek : ent 0 none z = .fresh := by unfold ent entF; rw [if_pos rfl, if_neg e1, if_neg e2]
        refine ⟨_, rfl, one, fun b nb => ⟨one, fun q2 nq2 => ?_⟩⟩
        refine ⟨sa, q2, _, _, rfl, rfl, Same.new nq2 _ _ (Same.new nb _ _ (s1 _ _ h1)), upd_same, (by rw [hx1]; exact Nat.le_of_lt (small1000 (by show xs.length + 1 + 1 ≤ 1000; omega))), fun p np => ⟨two, fun y ny => ?_⟩⟩
        have pu := pushed s1 [.non] b nb q2 nq2 p np [none] rfl
        refine tupN pu.1 p ?_ ?_ y ny
        · show errOf (ent 0 none z) z = _
          rw [ek]
          rfl
        · show StAt _ bb p (topOf (ent 0 none z) []) _
          rw [ek]
          exact pu.2
    | cons x t =>
      refine iteF ?_
      obtain ⟨ls, f, hlf⟩ : ∃ ls f, x :: t = ls ++ [f] := ⟨(x :: t).dropLast, (x :: t).getLast (by simp), (List.dropLast_concat_getLast (by simp)).symm⟩
      rw [hlf] at h2 hk hl5 k tupE tupN
      clear hlf
      have hlen : (ls ++ [f]).length = ls.length + 1 := by rw [List.length_append, List.length_singleton]
      have eP : ent (ls ++ [f]).length (lastO (ls ++ [f])) z = entP f z := by
        unfold ent
        rw [if_neg (by omega), lastO_app]
      rw [eP] at k tupE tupN
      have mp : (ls ++ [f]).map oV = ls.map oV ++ [oV f] := by rw [List.map_append]; rfl
      rw [mp] at h2
      refine ⟨_, rfl, two, fun a na => ?_⟩
      refine ⟨a, _, rfl, .inl (SqL.of upd_same), rfl, rfl, _, rfl, ?_⟩
      rw [show (if false = true then _ else _) = _ from if_neg Bool.false_ne_true]
      have s1 := s0.trans (Same.new (o := .lst [.str "never", .str "alone"]) na)
      have same : StAt (upd (upd H q (.lst [])) a (.lst [.str "never", .str "alone"])) bb sa (ls ++ [f]) (m + 1) := ⟨xs, r, s1 _ _ h1, by rw [mp]; exact s1 _ _ h2, by omega, nsb, nrb⟩
      have pre : entP f z = .pres → Q = Q := fun _ => rfl
      simp only [modesS, List.mem_cons, List.not_mem_nil, or_false] at hz
      rcases hz with rfl | rfl | rfl | rfl | rfl | rfl | rfl | rfl
      · -- join
        refine iteF ⟨_, rfl, rfl, _, rfl, iteF (iteF ⟨_, rfl, rfl, _, rfl, iteF ⟨_, rfl, rfl, _, rfl, iteF ⟨_, rfl, rfl, _, rfl, iteF ⟨_, rfl, two, fun y ny => ?_⟩⟩⟩⟩)⟩
        exact tupN s1 sa rfl same y ny
      · -- inner
        refine iteF ⟨_, rfl, rfl, _, rfl, iteT ?_⟩
        refine ⟨_, rfl, _, rfl, r, _, _, oV f, rfl, rfl, SqL.of (s1 _ _ h2), atI_last _ _, rfl, _, rfl, ?_⟩
        cases f with
        | some w =>
          refine iteT ⟨_, rfl, _, rfl, r, _, _, .str w, rfl, rfl, SqL.of (s1 _ _ h2), atI_last _ _, two, fun e ne => ⟨_, rfl, two, fun y ny => ?_⟩⟩
          exact tupE s1 "doomed" w rfl rfl e ne y ny
        | none =>
          refine iteF ⟨_, rfl, rfl, _, rfl, iteT ?_⟩
          refine ⟨_, rfl, _, rfl, _, rfl, sa, _, rfl, SqL.of (s1 _ _ h1), fun p np => ?_⟩
          rw [cut_last]
          have s2 := s1.trans (Same.new (o := .lst xs) np)
          refine ⟨_, rfl, one, fun b nb => ?_⟩
          have s3 := s2.trans (Same.new (o := .lst [.non]) nb)
          refine ⟨r, b, _, _, rfl, rfl, s3 _ _ h2, upd_same, ?_, fun g ng => ?_⟩
          · rw [List.length_append, List.length_map, List.length_singleton]
            exact Nat.le_of_lt (small1000 (by show ls.length + 1 + 1 ≤ 1000; omega))
          have s4 := s3.trans (Same.new (o := .lst ((ls.map oV ++ [oV none]) ++ [.non])) ng)
          refine ⟨one, fun e ne => ?_⟩
          have s5 := Same.new (o := .lst [.ref g]) ne
          have s2p := (Same.new (o := .lst [.non]) nb).trans ((Same.new (o := .lst ((ls.map oV ++ [oV none]) ++ [.non])) ng).trans s5)
          refine ⟨p, e, _, _, rfl, rfl, s2p _ _ upd_same, upd_same, hx, fun u nu => ⟨two, fun y ny => ?_⟩⟩
          have s6 := Same.new (o := .lst (xs ++ [.ref g])) nu
          refine tupN (s4.trans (s5.trans s6)) u rfl ⟨xs, g, upd_same, ?_, by omega, fun z => hbb (s4.free (s5.free (by rw [← z]; exact nu))), fun z => hbb (s3.free (by rw [← z]; exact ng))⟩ y ny
          show _ = some (HO.lst (((ls ++ [none]) ++ [none]).map oV))
          rw [List.map_append, mp]
          exact s6 _ _ (s5 _ _ upd_same)
      · -- apart
        refine iteF ⟨_, rfl, rfl, _, rfl, iteF (iteF ⟨_, rfl, rfl, _, rfl, iteF ⟨_, rfl, rfl, _, rfl, iteT ?_⟩⟩)⟩
        refine ⟨_, rfl, one, fun b nb => ⟨one, fun q2 nq2 => ?_⟩⟩
        refine ⟨sa, q2, _, _, rfl, rfl, Same.new nq2 _ _ (Same.new nb _ _ (s1 _ _ h1)), upd_same, (by rw [hx1]; exact Nat.le_of_lt (small1000 (by show xs.length + 1 + 1 ≤ 1000; omega))), fun p np => ⟨two, fun y ny => ?_⟩⟩
        have pu := pushed s1 [.non] b nb q2 nq2 p np [none] rfl
        exact tupN pu.1 p rfl pu.2 y ny
      · -- must
        refine iteF ⟨_, rfl, rfl, _, rfl, iteF (iteF ⟨_, rfl, rfl, _, rfl, iteF ⟨_, rfl, rfl, _, rfl, iteF ⟨_, rfl, rfl, _, rfl, iteF ⟨_, rfl, two, fun y ny => ?_⟩⟩⟩⟩)⟩
        exact tupN s1 sa rfl same y ny
      · -- either
        refine iteF ⟨_, rfl, rfl, _, rfl, iteF (iteF ⟨_, rfl, rfl, _, rfl, iteF ⟨_, rfl, rfl, _, rfl, iteF ⟨_, rfl, rfl, _, rfl, iteF ⟨_, rfl, two, fun y ny => ?_⟩⟩⟩⟩)⟩
        exact tupN s1 sa rfl same y ny
      · -- never
        exact iteT ⟨_, rfl, two, fun e ne => ⟨_, rfl, two, fun y ny => tupE s1 "present" "never" rfl rfl e ne y ny⟩⟩
      · -- outside
        refine iteF ⟨_, rfl, rfl, _, rfl, iteF (iteF ⟨_, rfl, rfl, _, rfl, iteF ⟨_, rfl, rfl, _, rfl, iteF ⟨_, rfl, rfl, _, rfl, iteT ?_⟩⟩⟩)⟩
        refine ⟨_, rfl, Nat.zero_le _, fun b nb => ⟨one, fun q2 nq2 => ?_⟩⟩
        refine ⟨sa, q2, _, _, rfl, rfl, Same.new nq2 _ _ (Same.new nb _ _ (s1 _ _ h1)), upd_same, (by rw [hx1]; exact Nat.le_of_lt (small1000 (by show xs.length + 1 + 1 ≤ 1000; omega))), fun p np => ⟨two, fun y ny => ?_⟩⟩
        have pu := pushed s1 [] b nb q2 nq2 p np [] rfl
        exact tupN pu.1 p rfl pu.2 y ny
      · -- alone
        exact iteT ⟨_, rfl, two, fun e ne => ⟨_, rfl, two, fun y ny => tupE s1 "present" "alone" rfl rfl e ne y ny⟩⟩
end
end IC
namespace IC
open PySem L2 TL
/-- which clause takes which of the three errors -/
structure Clauses (K : PySem.W.Frag) (mg : Str → Option Value) (c : Cs) : Prop where
  gM : mg "Missing" = some (.ref c.M)
  gP : mg "Present" = some (.ref c.P)
  gO : mg "Doomed" = some (.ref c.O)
  xM : XfC K c.M
  xP : XfC K c.P
  xO : XfC K c.O
  nM : PySem.W.findIn K (.ref c.M) "mode" = some none
  nP : PySem.W.findIn K (.ref c.P) "mode" = some none
  nO : PySem.W.findIn K (.ref c.O) "first" = some none
  mm : PySem.W.exmOne K (.ref c.M) (.ref c.M) = some true
  pm : PySem.W.exmOne K (.ref c.P) (.ref c.M) = some false
  pp : PySem.W.exmOne K (.ref c.P) (.ref c.P) = some true
  om : PySem.W.exmOne K (.ref c.O) (.ref c.M) = some false
  op : PySem.W.exmOne K (.ref c.O) (.ref c.P) = some false
  oo : PySem.W.exmOne K (.ref c.O) (.ref c.O) = some true
section
variable {P : Program} {w : World} {K : PySem.W.Frag} {mg : Str → Option Value} {base : Heap} {c : Cs}
theorem ok_law_enter {f : Addr} {fd : FuncData} (F : Fun K "_law_enter" "_law_enter" s_law_enter f fd) (B : DbTxt K mg c) (L : Clauses K mg c) (M_enter : MDf P w K mg base (L2.CX P w) 4 c.D "enter" ["self", "mode"] [] (spEnter c)) :
    FnOk P w K mg base CX0 5 f fd ["db", "mode"] (spLawEnter c) := by
  refine F.ok sc_law_enter (fun vs H Q E h => ?_) (fun cdv A outer s H vs Q E hr h => ?_)
  · obtain ⟨d, p, bs, z, uP, n, f, rfl, _⟩ := h
    rfl
  · obtain ⟨d, p, bs, z, uP, n, f, rfl, hz, hd, hp, hb, hn, k1, k2⟩ := h
    have two : [V.str "", V.str ""].length ≤ sizeLine := by show 2 ≤ sizeLine; decide
    refine ⟨_, (pss_cons (ps_try_cl rfl rfl sc_law_enter.nd takes0 (fun W pn xe tk _ => (pss_one (ps_expr (pe_mdX M_enter B.cD tk hr (by decide) (pv 0) (pa_cons (pv 1) pa_nil)))))
      (.nm (i := 2) rfl rfl ⟨rfl, by decide, .inl L.gM⟩ (fun a oe cls d pn hz hf => pss_one (ps_ret (pe_tup (pa_cons pe_str (pa_cons (pe_xf L.xM L.nM hz hf (pv 2)) pa_nil)))))
        (.nm (i := 2) rfl rfl ⟨rfl, by decide, .inl L.gP⟩ (fun a oe cls d pn hz hf => pss_one (ps_ret (pe_tup (pa_cons pe_str (pa_cons (pe_xf L.xP L.nP hz hf (pv 2)) pa_nil)))))
          (.nm (i := 2) rfl rfl ⟨rfl, by decide, .inl L.gO⟩ (fun a oe cls d pn hz hf => pss_one (ps_ret (pe_tup (pa_cons pe_str (pa_cons (pe_xf L.xO L.nO hz hf (pv 2)) pa_nil))))) .nil)))) (pss_one (ps_ret pe_non))), ?_⟩
    refine ⟨_, rfl, d, p.dx, _, rfl, hd.1, rfl, _, rfl, d, p, bs, z, uP, n, f, rfl, hz, hd, hp, hb, hn, ?_⟩
    revert k1 k2
    cases ent n f z with
    | miss =>
      intro k1 _ x H' s e
      exact ⟨true, L.mm, fun _ a ha => ⟨_, rfl, rfl, rfl, x, _, .str z, rfl, e, rfl, two, fun y ny => k1 _ _ rfl _ y (s.trans (Same.new ny)) upd_same⟩, (fun q => nomatch q)⟩
    | pres =>
      intro k1 _ x H' s e
      exact ⟨false, L.pm, (fun q => nomatch q), fun _ => ⟨true, L.pp, fun _ a ha => ⟨_, rfl, rfl, rfl, x, _, .str z, rfl, e, rfl, two, fun y ny => k1 _ _ rfl _ y (s.trans (Same.new ny)) upd_same⟩, (fun q => nomatch q)⟩⟩
    | doom w =>
      intro k1 _ x H' s e
      exact ⟨false, L.om, (fun q => nomatch q), fun _ => ⟨false, L.op, (fun q => nomatch q), fun _ => ⟨true, L.oo, fun _ a ha => ⟨_, rfl, rfl, rfl, x, _, .str w, rfl, e, rfl, two, fun y ny => k1 _ _ rfl _ y (s.trans (Same.new ny)) upd_same⟩, (fun q => nomatch q)⟩⟩⟩
    | noth => exact fun _ k2 => k2 rfl
    | dooms => exact fun _ k2 => k2 rfl
    | fresh => exact fun _ k2 => k2 rfl
    | inner => exact fun _ k2 => k2 rfl
theorem exm_pair {S C : Addr} {b : Bool} (h1 : PySem.W.subIn K (.ref C) (.type "BaseException") = some true) (h2 : PySem.W.isClsIn K C = true) (h3 : PySem.W.typeIn K (.ref C) = some (.type "type")) (h4 : PySem.W.subIn K (.ref S) (.ref C) = some b) :
    PySem.W.exmOne K (.ref S) (.ref C) = some b := by
  have z1 : (PySem.W.subIn K (.ref C) (.type "BaseException") == some true) = true := by rw [h1] <;> rfl
  have z2 : ((PySem.W.clsIn K C).isSome && PySem.W.typeIn K (.ref C) == some (.type "type")) = true := by
    rw [show (PySem.W.clsIn K C).isSome = true from h2, h3] <;> rfl
  unfold PySem.W.exmOne
  rw [if_pos z1]
  unfold PySem.W.kitCls
  exact Eq.trans (if_pos z2) h4
theorem len_short {d : PyData} (b : Nat) (hb : 8 ≤ b) (h : d.leavesShort b = true) (hs : (b + 2) * d.bulk + b ≤ 1000) : d.shown.length ≤ sizeLine := Nat.le_trans (PyData.shown_le_bulk b hb d h) (Nat.le_of_lt (small1000 hs))
theorem top_ne (l : List (Option Str)) : (!PyData.eqv (.list (l.map dO)) (.list [])) = decide (0 < l.length) := by
  cases l with
  | nil => rfl
  | cons x t =>
    rw [decide_eq_true (by show 0 < t.length + 1; omega)]
    rfl
def told (l : List (Option Str)) (m : Nat) : PyData := .list [.bool (decide (0 < l.length)), .bool (!decide (oV (lastO l) = .non)), dO (lastO l), .int l.length, .int m]
theorem dp_o {K : PySem.W.Frag} {H : Hp} (f : Option Str) : Dp K H (oV f) (dO f) := by
  cases f with
  | none => exact .non
  | some w => exact .str w
theorem lastO_mem {l : List (Option Str)} {w : Str} (h : lastO l = some w) : some w ∈ l := by
  unfold lastO at h
  split at h
  · rename_i u e
    cases h
    exact List.mem_of_getLast? e
  · cases h
theorem small_int (i : Nat) (h : i ≤ 1000) : (PyData.int i).showable = true ∧ (PyData.int i).leavesShort 8 = true := by
  have all : ∀ k : Fin 1001, (PyData.int k.val).showable = true ∧ (PyData.int k.val).leavesShort 8 = true := by decide +kernel
  exact all ⟨i, by omega⟩
theorem told_ok {l : List (Option Str)} {m : Nat} (hk : OkL l) (hl : l.length ≤ 1000) (hm : m ≤ 1000) : (told l m).showable = true ∧ (told l m).depth ≤ 20 ∧ (told l m).shown.length ≤ sizeLine := by
  have i1 := small_int l.length hl
  have i2 := small_int m hm
  have w1 : (dO (lastO l)).showable = true ∧ (dO (lastO l)).leavesShort 8 = true ∧ (dO (lastO l)).bulk ≤ 8 ∧ (dO (lastO l)).depth = 0 := by
    cases e : lastO l with
    | none => exact ⟨rfl, rfl, Nat.zero_le _, rfl⟩
    | some w =>
      have hw := hk w (lastO_mem e)
      refine ⟨rfl, ?_, hw.2.1, rfl⟩
      show (tl w).all (fun c => decide (c < 16 ^ 8)) = true
      rw [List.all_eq_true]
      intro c hc
      have q := (hw.2.2 c hc).2
      exact decide_eq_true (by omega)
  refine ⟨?_, ?_, len_short 8 (Nat.le_refl _) ?_ ?_⟩
  · show (true && (true && ((dO (lastO l)).showable && ((PyData.int l.length).showable && ((PyData.int m).showable && true))))) = true
    rw [w1.1, i1.1, i2.1]
    rfl
  · show max 0 (max 0 (max (dO (lastO l)).depth (max 0 (max 0 0)))) + 1 ≤ 20
    rw [w1.2.2.2]
    decide
  · show (true && (true && ((dO (lastO l)).leavesShort 8 && ((PyData.int l.length).leavesShort 8 && ((PyData.int m).leavesShort 8 && true))))) = true
    rw [w1.2.1, i1.2, i2.2]
    rfl
  · show (8 + 2) * (0 + 1 + (0 + 1 + ((dO (lastO l)).bulk + 1 + (0 + 1 + (0 + 1 + 0))))) + 8 ≤ 1000
    have := w1.2.2.1
    omega
theorem ok_shows {f : Addr} {fd : FuncData} (F : Fun K "_law_shows" "_law_shows" s_law_shows f fd) (T : Bn mg) (B : DbTxt K mg c) (P_is_open : PDf P w K mg base 1 c.D "is_open" (spGet c fun n _ _ => .bl (decide (0 < n)))) (P_is_doomed : PDf P w K mg base 3 c.D "is_doomed" (spGet c fun _ f _ => .bl (!decide (oV f = .non))))
    (P_reason : PDf P w K mg base 1 c.D "reason" (spGet c fun _ f _ => oV f)) (P_levels : PDf P w K mg base 1 c.D "levels" (spGet c fun n _ _ => .int n)) (P_depth : PDf P w K mg base 1 c.D "depth" (spGet c fun _ _ m => .int m)) :
    FnG P w K mg base 5 f fd ["db", "stack", "depth"] (spShows c) := by
  refine IC.Fun.okG F sc_law_shows (fun vs H Q E h => ?_) (fun cdv A outer s H vs Q E hgd hr h => ?_)
  · obtain ⟨d, sa, _, p, bs, uP, l, m, rfl, _⟩ := h
    rfl
  · obtain ⟨d, sa, _, p, bs, uP, l, m, rfl, hd, hp, ⟨xs, r, h1, h2, hm⟩, hk, hb, hl, k⟩ := h
    refine ⟨_, (pss_cons (ps_set (i := 3) sc_law_shows.nd rfl (Or.inl rfl) (pe_ix ix_list (pv 1) (pe_un un_neg pe_int) (fun _ _ => rfl)))
  (Evl.pss_cut (ps_set (i := 4) sc_law_shows.nd rfl (Or.inl rfl) (pe_ifExp (pt_cmpR (op_neD hr.units) (pv 3) (pe_lst pa_nil) (nomark _)) (pe_ix ix_list (pv 3) (pe_un un_neg pe_int) (fun _ _ => rfl)) pe_non))
  (pss_cons (ps_set (i := 5) sc_law_shows.nd rfl (Or.inl rfl) (pe_lst (pa_cons (pe_pd P_is_open B.cD hr (by decide) (pv 0)) (pa_cons (pe_pd P_is_doomed B.cD hr (by decide) (pv 0)) (pa_cons (pe_pd P_reason B.cD hr (by decide) (pv 0)) (pa_cons (pe_pd P_levels B.cD hr (by decide) (pv 0)) (pa_cons (pe_pd P_depth B.cD hr (by decide) (pv 0)) pa_nil)))))))
  (pss_one (ps_ret (pe_cmpR op_eq (pe_callB (call_reprD hgd hr.units) (by rfl) T.repr (by decide +kernel) (pa_cons (pv 5) pa_nil)) (pe_callB (call_reprD hgd hr.units) (by rfl) T.repr (by decide +kernel) (pa_cons (pe_lst (pa_cons (pe_cmpR (op_neD hr.units) (pv 3) (pe_lst pa_nil) (nomark _)) (pa_cons (pe_cmpR op_notN (pv 4) pe_non (nomark _)) (pa_cons (pv 4) (pa_cons (pe_callB call_len_seq (by rfl) T.len PySem.boot_len (pa_cons (pv 3) pa_nil)) (pa_cons (pv 2) pa_nil)))))) pa_nil)) (nomark _))))))), ?_⟩
    refine ⟨_, rfl, _, rfl, sa, _, _, .ref r, rfl, rfl, SqL.of h1, atI_last xs (.ref r), ?_⟩
    refine ⟨fun σ' H' => σ' = [some (.ref d), some (.ref sa), some (.int bs.length), some (.ref r), some (oV (lastO l)), none] ∧ Same H H', ?_, ?_⟩
    · refine ⟨_, rfl, Nat.zero_le _, fun q nq => ?_⟩
      have s0 := Same.new (o := .lst []) nq
      refine ⟨.list (l.map dO), .list [], .lst (SqL.of (s0 _ _ h2)) (dpAll_o l), .lst (SqL.of upd_same) .nil, shaped_o hk, rfl, _, rfl, ?_⟩
      rw [top_ne]
      cases l with
      | nil => exact iteF ⟨rfl, s0⟩
      | cons x t =>
        refine iteT ?_
        obtain ⟨ls, f, hlf⟩ : ∃ ls f, x :: t = ls ++ [f] := ⟨(x :: t).dropLast, (x :: t).getLast (by simp), (List.dropLast_concat_getLast (by simp)).symm⟩
        rw [hlf] at h2 ⊢
        have mp : (ls ++ [f]).map oV = ls.map oV ++ [oV f] := by rw [List.map_append]; rfl
        rw [mp] at h2
        refine ⟨_, rfl, _, rfl, r, _, _, oV f, rfl, rfl, SqL.of (s0 _ _ h2), atI_last _ _, ?_, s0⟩
        rw [lastO_app]
        rfl
    · rintro σ' H1 ⟨rfl, s1⟩
      have hd1 := hd.same s1
      have hp1 := hp.same s1
      have hl1 : l.length ≤ 1000 := by omega
      have get : ∀ {H2 : Hp}, Same H1 H2 → True := fun _ => trivial
      refine ⟨_, rfl, d, p.dx, _, rfl, hd1.1, d, p, bs, uP, l.length, lastO l, rfl, hd1, hp1, hb, hl1, ?_⟩
      refine ⟨_, rfl, d, p.dx, _, rfl, hd1.1, d, p, bs, uP, l.length, lastO l, rfl, hd1, hp1, hb, hl1, ?_⟩
      refine ⟨_, rfl, d, p.dx, _, rfl, hd1.1, d, p, bs, uP, l.length, lastO l, rfl, hd1, hp1, hb, hl1, ?_⟩
      refine ⟨_, rfl, d, p.dx, _, rfl, hd1.1, d, p, bs, uP, l.length, lastO l, rfl, hd1, hp1, hb, hl1, ?_⟩
      refine ⟨_, rfl, d, p.dx, _, rfl, hd1.1, d, p, bs, uP, l.length, lastO l, rfl, hd1, hp1, hb, hl1, ?_⟩
      refine ⟨(by show 5 ≤ sizeLine; decide), fun a na => ?_⟩
      have five : ∀ (H' : Hp) (e : Addr), H' e = some (.lst [.bl (decide (0 < l.length)), .bl (!decide (oV (lastO l) = .non)), oV (lastO l), .int l.length, .int bs.length]) → Dp K H' (.ref e) (told l bs.length) := fun H' e h =>
        .lst (SqL.of h) (.cons (.bl _) (.cons (.bl _) (.cons (dp_o _) (.cons (.int _) (.cons (.int _) .nil)))))
      have hD : (told l bs.length).hasDict = false := by
        unfold told
        cases lastO l <;> rfl
      have ok := told_ok (l := l) (m := bs.length) hk hl1 hb
      have s2 := Same.new (o := .lst [.bl (decide (0 < l.length)), .bl (!decide (oV (lastO l) = .non)), oV (lastO l), .int l.length, .int bs.length]) na
      refine ⟨_, rfl, a, told l bs.length, rfl, five _ a upd_same, ok.1, hD, ok.2.1, ok.2.2, ?_⟩
      refine ⟨_, rfl, Nat.zero_le _, fun q nq => ?_⟩
      have s3 := Same.new (o := .lst []) nq
      have s13 := s1.trans (s2.trans s3)
      refine ⟨.list (l.map dO), .list [], .lst (SqL.of (s13 _ _ h2)) (dpAll_o l), .lst (SqL.of upd_same) .nil, shaped_o hk, rfl, ?_⟩
      rw [top_ne]
      refine ⟨_, rfl, rfl, _, rfl, _, rfl, r, _, rfl, .inl (SqL.of (s13 _ _ h2)), ?_⟩
      rw [List.length_map]
      refine ⟨_, rfl, (by show 5 ≤ sizeLine; decide), fun b nb => ?_⟩
      refine ⟨b, told l bs.length, rfl, five _ b upd_same, ok.1, hD, ok.2.1, ok.2.2, rfl, ?_⟩
      rw [decide_eq_true (rfl : V.str (told l bs.length).shown = V.str (told l bs.length).shown)]
      exact k _ (s13.trans (Same.new nb))
end
end IC
namespace IC
open PySem L2 TL
theorem ent_doom {n : Nat} {f : Option Str} {z w : Str} (h : ent n f z = .doom w) : f = some w := by
  unfold ent entF entP at h
  split at h
  · split at h
    · cases h
    · split at h <;> cases h
  · split at h
    · cases h
    · split at h
      · cases h
      · split at h
        · cases h
        · split at h
          · cases h
          · cases f with
            | none => cases h
            | some u =>
              injection h with h
              rw [h]
theorem topOf_err {k : Ek} {z a b : Str} {l : List (Option Str)} (h : errOf k z = some (a, b)) : topOf k l = l := by
  cases k <;> first | rfl | cases h
theorem topOf_len (k : Ek) (l : List (Option Str)) : (topOf k l).length ≤ l.length + 1 := by
  cases k <;> simp [topOf]
theorem mode_ok {z : Str} (h : z ∈ modesS) : PyData.strOk z = true := by
  simp only [modesS, List.mem_cons, List.not_mem_nil, or_false] at h
  rcases h with rfl | rfl | rfl | rfl | rfl | rfl | rfl | rfl <;> decide +kernel
theorem err_ok {n : Nat} {l : List (Option Str)} {z a b : Str} (hz : z ∈ modesS) (hl : OkL l) (h : errOf (ent n (lastO l) z) z = some (a, b)) : PyData.strOk a = true ∧ PyData.strOk b = true := by
  have hd : ∀ w, ent n (lastO l) z = .doom w → IsW w := fun w e => hl w (lastO_mem (ent_doom e))
  revert h hd
  cases ent n (lastO l) z with
  | miss =>
    intro h _
    injection h with h
    injection h with h1 h2
    subst h1
    subst h2
    exact ⟨by decide +kernel, mode_ok hz⟩
  | pres =>
    intro h _
    injection h with h
    injection h with h1 h2
    subst h1
    subst h2
    exact ⟨by decide +kernel, mode_ok hz⟩
  | doom w =>
    intro h hd
    injection h with h
    injection h with h1 h2
    subst h1
    subst h2
    exact ⟨by decide +kernel, okW (hd _ rfl)⟩
  | noth => exact fun h => by cases h
  | dooms => exact fun h => by cases h
  | fresh => exact fun h => by cases h
  | inner => exact fun h => by cases h
theorem two_shaped {a b : Str} (h : PyData.strOk a = true ∧ PyData.strOk b = true) : SeqAt.shaped (.tuple [.str a, .str b]) = true ∧ PyData.eqv (.tuple [.str a, .str b]) (.tuple [.str a, .str b]) = true := by
  have c0 : PyData.canLay0 (.tuple [.str a, .str b]) = true := by
    show (PyData.strOk a && (PyData.strOk b && true)) = true
    rw [h.1, h.2]
    rfl
  refine ⟨?_, ?_⟩
  · show (PyData.canLay0 (.tuple [.str a, .str b]) && decide (PyData.depth (.tuple [.str a, .str b]) ≤ 64)) = true
    rw [c0]
    rfl
  · exact PySem.SeqAt.eqv_refl _ c0
section
variable {P : Program} {w : World} {K : PySem.W.Frag} {mg : Str → Option Value} {base : Heap} {c : Cs}
theorem ok_law {f : Addr} {fd : FuncData} (F : Fun K "law" "law" s_law f fd) (T : Bn mg) (B : DbTxt K mg c) (D_law_pool : Df P w K mg base 1 "_law_pool" ["script", "at"] (spPool K)) (D_law_draw : Df P w K mg base 1 "_law_draw" ["pool", "many"] spDraw)
    (D_law_word : Df P w K mg base 2 "_law_word" ["pool"] spWord) (D_law_entered : Df P w K mg base 1 "_law_entered" ["stack", "mode"] spEntered) (D_law_enter : Df P w K mg base 5 "_law_enter" ["db", "mode"] (spLawEnter c))
    (D_law_shows : DfG P w K mg base 5 "_law_shows" ["db", "stack", "depth"] (spShows c)) (C_D : CDf P w K mg base 1 "Database" c.D (spDbInit c)) (M_doom : MDf P w K mg base CX0 2 c.D "doom" ["self", "first"] [] (spDbDoom c K))
    (M_leave : MDf P w K mg base CX0 4 c.D "leave" ["self", "error", "commits"] [.non, .bl true] (spLeave c)) : FnG P w K mg base 6 f fd ["script"] (spLaw K) := by
  refine IC.Fun.okG F sc_law (fun vs H Q E h => ?_) (fun cdv A outer s H vs Q E hgd hr h => ?_)
  · obtain ⟨a, ns, rfl, _⟩ := h
    rfl
  · obtain ⟨a, ns, rfl, hS, hlen, k⟩ := h
    refine ⟨_, (pss_cons (ps_set (i := 1) sc_law.nd rfl (Or.inl rfl) (pe_lst (pa_cons pe_str (pa_cons pe_str (pa_cons pe_str (pa_cons pe_str (pa_cons pe_str (pa_cons pe_str (pa_cons pe_str (pa_cons pe_str pa_nil))))))))))
  (pss_cons (ps_for PassesOwn.never rfl (pi_range1 rfl T.range (pa_cons (pe_callB (call_max2 rfl) (by rfl) T.max PyProof.Rows.boot_max (pa_cons pe_int (pa_cons (pe_callB (call_min2 rfl) (by rfl) T.min PyProof.Rows.boot_min (pa_cons pe_int (pa_cons (pe_callB call_len_seq (by rfl) T.len PySem.boot_len (pa_cons (pv 0) pa_nil)) pa_nil))) pa_nil))) pa_nil)) (pg_name (i := 2) sc_law.nd rfl (Or.inl rfl))
  (pss_cons (ps_set (i := 3) sc_law.nd rfl (Or.inl rfl) (pe_df D_law_pool hr (by decide) rfl (pa_cons (pv 0) (pa_cons (pv 2) pa_nil))))
  (pss_cons (ps_par3 (i := 4) (j := 5) (l := 6) (by rfl) sc_law.nd rfl rfl rfl (by decide) (by decide) (by decide) rfl rfl rfl (pa_cons (pe_mk0 C_D hr (by decide) rfl) (pa_cons (pe_lst (pa_cons (pe_lst pa_nil) pa_nil)) (pa_cons pe_int pa_nil))) (by rfl))
  (pss_cons (ps_for PassesOwn.never rfl (pi_range1 rfl T.range (pa_cons (pe_df D_law_draw hr (by decide) rfl (pa_cons (pv 3) (pa_cons pe_int pa_nil))) pa_nil)) (pg_name (i := 7) sc_law.nd rfl (Or.inl rfl))
  (pss_cons (ps_set (i := 8) sc_law.nd rfl (Or.inl rfl) (pe_ix ix_list (pv 1) (pe_df D_law_draw hr (by decide) rfl (pa_cons (pv 3) (pa_cons pe_int pa_nil))) (fun _ _ => rfl)))
  (pss_cons (ps_asg (pe_df D_law_entered hr (by decide) rfl (pa_cons (pv 5) (pa_cons (pv 8) pa_nil))) (pg_tup rfl (pgs_cons (pg_name (i := 9) sc_law.nd rfl (Or.inl rfl)) (pgs_cons (pg_name (i := 10) sc_law.nd rfl (Or.inl rfl)) pgs_nil))))
  (Evl.pss_cut (ps_if (pt_cmpR (op_neD hr.units) (pe_df D_law_enter hr (by decide) rfl (pa_cons (pv 4) (pa_cons (pv 8) pa_nil))) (pv 9) (nomark _))
  (pss_one (ps_ret pe_bl))
  pss_nil)
  (pss_cons (ps_par (i := 5) (j := 6) (by rfl) sc_law.nd rfl rfl (by decide) rfl rfl (pa_cons (pv 10) (pa_cons (pe_op op_add (pv 6) (pe_callTy call_int1 (by rfl) T.int (by decide +kernel) (pa_cons (pe_cmpR op_isN (pv 9) pe_non (nomark _)) pa_nil))) pa_nil)) (by rfl))
  (Evl.pss_cut (ps_if (pt_cmpR op_eq (pe_df D_law_draw hr (by decide) rfl (pa_cons (pv 3) (pa_cons pe_int pa_nil))) pe_int (nomark _))
  (pss_cons (ps_set (i := 11) sc_law.nd rfl (Or.inl rfl) (pe_df D_law_word hr (by decide) rfl (pa_cons (pv 3) pa_nil)))
  (pss_cons (ps_if (pt_cmpR op_notN (pe_md M_doom B.cD hr (by decide) (pv 4) (pa_cons (pv 11) pa_nil)) pe_non (nomark _))
  (pss_one (ps_ret pe_bl))
  pss_nil)
  (pss_one (ps_if (PW.pt (pw_and (pt_cmpR (op_neD hr.units) (pe_ix ix_list (pv 5) (pe_un un_neg pe_int) (fun _ _ => rfl)) (pe_lst pa_nil) (nomark _)) (pw_and1 (pt_cmpR op_isN (pe_ix ix_list (pe_ix ix_list (pv 5) (pe_un un_neg pe_int) (fun _ _ => rfl)) (pe_un un_neg pe_int) (fun _ _ => rfl)) pe_non (nomark _)))))
  (pss_one (ps_set (i := 5) sc_law.nd rfl (Or.inl rfl) (pe_op op_cat (pe_slice sl_list (pv 5) po_none (po_some (pe_un un_neg pe_int))) (pe_lst (pa_cons (pe_op op_cat (pe_slice sl_list (pe_ix ix_list (pv 5) (pe_un un_neg pe_int) (fun _ _ => rfl)) po_none (po_some (pe_un un_neg pe_int))) (pe_lst (pa_cons (pv 11) pa_nil))) pa_nil)))))
  pss_nil))))
  pss_nil)
  (pss_one (ps_if (pt_not (pt_val (pe_dfG D_law_shows hgd hr (by decide) rfl (pa_cons (pv 4) (pa_cons (pv 5) (pa_cons (pv 6) pa_nil))))))
  (pss_one (ps_ret pe_bl))
  pss_nil))))))))
  (pss_one (ps_for PassesOwn.never rfl (pi_list (pv 1)) (pg_name (i := 8) sc_law.nd rfl (Or.inl rfl))
  (pss_cons (ps_asg (pe_df D_law_entered hr (by decide) rfl (pa_cons (pv 5) (pa_cons (pv 8) pa_nil))) (pg_tup rfl (pgs_cons (pg_name (i := 9) sc_law.nd rfl (Or.inl rfl)) (pgs_cons (pg_name (i := 10) sc_law.nd rfl (Or.inl rfl)) pgs_nil))))
  (Evl.pss_cut (ps_if (PW.pt (pw_or (pt_cmpR (op_neD hr.units) (pe_df D_law_enter hr (by decide) rfl (pa_cons (pv 4) (pa_cons (pv 8) pa_nil))) (pv 9) (nomark _)) (pw_or1 (pt_not (pt_val (pe_dfG D_law_shows hgd hr (by decide) rfl (pa_cons (pv 4) (pa_cons (pv 10) (pa_cons (pe_op op_add (pv 6) (pe_callTy call_int1 (by rfl) T.int (by decide +kernel) (pa_cons (pe_cmpR op_isN (pv 9) pe_non (nomark _)) pa_nil))) pa_nil)))))))))
  (pss_one (ps_ret pe_bl))
  pss_nil)
  (Evl.pss_cut (ps_if (PW.pt (pw_and (pt_cmpR op_isN (pv 9) pe_non (nomark _)) (pw_and1 (pt_cmpR op_notN (pe_md0 M_leave B.cD hr (by decide) (pv 4)) pe_non (nomark _)))))
  (pss_one (ps_ret pe_bl))
  pss_nil)
  (pss_one (ps_if (pt_not (pt_val (pe_dfG D_law_shows hgd hr (by decide) rfl (pa_cons (pv 4) (pa_cons (pv 5) (pa_cons (pv 6) pa_nil))))))
  (pss_one (ps_ret pe_bl))
  pss_nil)))))))))))
  (pss_one (ps_ret pe_bl)))), ?_⟩
    refine ⟨(by show 8 ≤ sizeLine; decide), fun md nmd => ?_⟩
    have s1 := Same.new (o := .lst modesV) nmd
    have hmd : upd H md (.lst modesV) md = some (.lst modesV) := upd_same
    have hlm : (ns.map V.int).length = ns.length := List.length_map ..
    obtain ⟨N, hN, hN2⟩ : ∃ N : Int, N = (if (if ((ns.map V.int).length : Int) < 10 then ((ns.map V.int).length : Int) else 10) > 1 then (if ((ns.map V.int).length : Int) < 10 then ((ns.map V.int).length : Int) else 10) else 1) ∧ 0 ≤ N ∧ N ≤ 10 := by
      refine ⟨_, rfl, ?_, ?_⟩ <;> (repeat' split) <;> omega
    have one : [V.non].length ≤ sizeLine := by show 1 ≤ sizeLine; decide
    refine ⟨_, rfl, a, _, rfl, .inl (s1.seq hS), _, _, rfl, _, _, rfl, N, (by rw [hN]), by omega, by omega, for_range (lo := 0) (n := N.toNat) (fun i σ H1 => ∃ v2 v3 v4 v5 v6 v7 v8 v9 v10 v11, σ = [some (.ref a), some (.ref md), v2, v3, v4, v5, v6, v7, v8, v9, v10, v11] ∧ Same H H1 ∧ H1 md = some (.lst modesV)) ⟨_, _, _, _, _, _, _, _, _, _, rfl, s1, hmd⟩ ?_ ?_⟩
    · rintro i σ H1 hi ⟨v2, v3, v4, v5, v6, v7, v8, v9, v10, v11, rfl, s1, hm1⟩
      refine ⟨_, rfl, _, rfl, a, ns, i, (by rw [Int.zero_add]; rfl), s1.seq hS, by omega, fun p o hp hp1 => ?_⟩
      intro x dx nx nd ne
      refine ⟨x, dx, rfl, upd_same, fun H2 b m h k' kp nb db => ⟨rfl, ?_⟩⟩
      refine ⟨Nat.zero_le _, fun r nr => ⟨one, fun sa nsa => ?_⟩⟩
      refine ⟨_, _, _, rfl, ?_⟩
      have S0 : LawSt c H1 (upd (upd H2 r (.lst [])) sa (.lst [.ref r])) p x ⟨dx, b, m, h, k'⟩ .non [] sa [] 0 0 := by
        have sx : Same (upd H1 p o) (upd (upd (upd H1 p o) dx (.own x)) x (.ins c.D dx [])) := (Same.new nd).trans (Same.new (by rw [upd_ne ne.symm]; exact nx))
        have s3 : Same H2 (upd (upd H2 r (.lst [])) sa (.lst [.ref r])) := (Same.new nr).trans (Same.new nsa)
        have x0 : H1 x = none := (none_of nx).2
        have nb3 := none_of (none_of (none_of nb).2).2
        have px : p ≠ x := (none_of nx).1
        refine ⟨(same_mv ((Same.new hp).trans sx) kp (by simpa using x0)).trans s3, (pool_mv (hp1.mv fun u e => sx _ _ e) kp (by simpa using px)).mv fun u e => s3 _ _ e, db.same s3, ?_, fun w hw => (by cases hw), hp, x0, nb3.2, nb3.1, .inl ⟨rfl, rfl⟩⟩
        refine ⟨[], r, upd_same, Same.new nsa _ _ upd_same, Nat.le_refl _, ?_, ?_⟩
        · exact (ne_of_none (Same.new nr _ _ db.2) nsa).symm
        · exact (ne_of_none db.2 nr).symm
      generalize upd (upd H2 r (.lst [])) sa (.lst [.ref r]) = H3 at S0 ⊢
      generalize hq : (⟨dx, b, m, h, k'⟩ : DbP) = q at S0
      refine ⟨_, rfl, p, 13, 0, rfl, S0.pool, by decide, by decide, by decide, fun d0 o0 a0 b0 hp0 => ?_⟩
      have S1 := S0.draw (Kp.at_ (List.mem_singleton.mpr rfl)) hp0
      refine ⟨d0, rfl, by omega, by omega, for_range (lo := 0) (n := d0.toNat) (fun j σ H' => ∃ (uP : V) (bs : List V) (sa : Addr) (l : List (Option Str)) (m : Nat) (n : Int) (v7 v8 v9 v10 v11 : Option V),
        σ = [some (.ref a), some (.ref md), some (.int (0 + (i : Int))), some (.ref p), some (.ref x), some (.ref sa), some (.int bs.length), v7, v8, v9, v10, v11] ∧ LawSt c H1 H' p x q uP bs sa l m n ∧ m ≤ j ∧ l.length ≤ j ∧ bs.length ≤ j ∧ n ≤ 1 + 20 * j)
        ⟨_, _, _, _, _, _, _, _, _, _, _, rfl, S1, Nat.le_refl _, Nat.le_refl _, Nat.le_refl _, by omega⟩ ?_ ?_⟩
      · rintro j σ H2 hj ⟨uP, bs, sa, l, m, n, v7, v8, v9, v10, v11, rfl, S, hm, hl, hb, hn⟩
        have hq1 : ∀ {H' : Hp} {uP bs}, DbAt c.D H' x q uP bs → H' q.b ≠ none := fun h z => by
          rw [h.2] at z
          cases z
        have hj2 : j < 13 := by omega
        refine ⟨_, rfl, _, rfl, p, 8, n, rfl, S.pool, by omega, by decide, by decide, fun d1 o1 e0 e1 hp1 => ?_⟩
        obtain ⟨z, hz, hzm, _, _⟩ := mode_at d1 e0 e1
        have S1 := S.draw (Kp.at_ (List.mem_singleton.mpr rfl)) hp1
        refine ⟨md, modesV, d1, _, rfl, rfl, SqL.of (S1.s _ _ hm1), hz, ?_⟩
        refine ⟨_, rfl, _, rfl, sa, q.b, z, l, m, rfl, hzm, S1.st, hq1 S1.db, by omega, by omega, S1.ok, fun H3 y sa' ev s3 re hy st' => ?_⟩
        refine ⟨y, _, rfl, SqT.of hy, rfl, _, _, rfl, _, _, rfl, rfl, ?_⟩
        have S3 := S1.same s3
        have tl := topOf_len (ent l.length (lastO l) z) l
        refine ⟨fun σ' H' => ∃ (uP' : V) (bs' : List V) (l' : List (Option Str)), σ' = [some (.ref a), some (.ref md), some (.int (0 + (i : Int))), some (.ref p), some (.ref x), some (.ref sa), some (.int bs.length), some (.int (0 + (j : Int))), some (.str z), some ev, some (.ref sa'), v11] ∧
          LawSt c H1 H' p x q uP' bs' sa' l' (m + 1) (n + 1) ∧ (bs'.length : Int) = bs.length + (if decide (ev = .non) = true then 1 else 0) ∧ l'.length ≤ j + 1 ∧ bs'.length ≤ j + 1, ?_, ?_⟩
        · refine ⟨_, rfl, _, rfl, x, q, bs, z, uP, l.length, lastO l, rfl, hzm, S3.db, S3.tr.pr, by omega, by omega, fun a' b' ee H4 e s4 he => ?_, fun ee => ?_⟩
          · rw [ee] at re
            obtain ⟨e2, rfl, he2⟩ := re
            have sh := two_shaped (err_ok hzm S.ok ee)
            refine ⟨_, rfl, .tuple [.str a', .str b'], .tuple [.str a', .str b'], .tup (SqT.of he) (.cons (.str _) (.cons (.str _) .nil)), .tup (SqT.of (s4 _ _ he2)) (.cons (.str _) (.cons (.str _) .nil)), sh.1, sh.1, _, rfl, ?_⟩
            rw [sh.2]
            rw [topOf_err ee] at st'
            refine iteF ⟨uP, bs, l, rfl, ?_, ?_, by omega, by omega⟩
            · have S4 := S3.same s4
              exact ⟨S4.s, S4.pool, S4.db, st'.same s4, S4.ok, S4.p0, S4.d0, S4.b0, S4.pb, S4.tr⟩
            · rw [decide_eq_false (by intro z; cases z)]
              simp
          · rw [ee] at re
            have re : ev = .non := re
            subst re
            refine enter_st S3 st' ee (by omega) fun H4 uP' y' S4 _ => ?_
            refine ⟨_, rfl, .none, .none, .non, .non, rfl, rfl, _, rfl, iteF ⟨uP', _, _, rfl, S4, ?_, by omega, ?_⟩⟩
            · rw [List.length_append, List.length_singleton, decide_eq_true rfl]
              simp
            · rw [List.length_append, List.length_singleton]
              omega
        rintro σ' H4 ⟨uP', bs', l', rfl, S4, hlen', hl', hb'⟩
        refine ⟨_, rfl, _, rfl, _, rfl, rfl, .inr ⟨_, rfl, _, _, rfl, rfl, V.ref sa', V.int bs'.length, by rw [hlen'], ?_⟩⟩
        refine ⟨fun σ' H' => ∃ (uP' : V) (bs' : List V) (sa' : Addr) (l' : List (Option Str)) (m' : Nat) (n' : Int) (v7 v8 v9 v10 v11 : Option V),
          σ' = [some (.ref a), some (.ref md), some (.int (0 + (i : Int))), some (.ref p), some (.ref x), some (.ref sa'), some (.int bs'.length), v7, v8, v9, v10, v11] ∧ LawSt c H1 H' p x q uP' bs' sa' l' m' n' ∧ m' ≤ j + 1 ∧ l'.length ≤ j + 1 ∧ bs'.length ≤ j + 1 ∧ n' ≤ 1 + 20 * ((j : Int) + 1), ?_, ?_⟩
        · refine ⟨_, rfl, p, 4, n + 1, rfl, S4.pool, by omega, by decide, by decide, fun d2 o2 f0 f1 hp2 => ?_⟩
          have S5 := S4.draw (Kp.at_ (List.mem_singleton.mpr rfl)) hp2
          refine ⟨rfl, _, rfl, ite2 (fun _ => ?_) (fun _ => ?_)⟩
          · refine ⟨_, rfl, p, n + 1 + 1, rfl, S5.pool, by omega, fun w H6 hw hp6 kp6 => ?_⟩
            have S6 := S5.draw kp6 hp6
            refine ⟨_, rfl, x, q.dx, _, rfl, S6.db.1, rfl, _, rfl, x, q, bs', uP', l'.length, lastO l', w, rfl, hw, S6.db, S6.tr.pr, ?_⟩
            by_cases nl : l' = []
            · subst nl
              refine .inl ⟨rfl, fun H7 s7 => ?_⟩
              refine ⟨rfl, _, rfl, iteF ?_⟩
              have S7 := S6.same s7
              obtain ⟨xs, r, g1, g2, g3, g4, g5⟩ := S7.st
              refine ⟨_, rfl, _, rfl, sa', _, _, .ref r, rfl, rfl, SqL.of g1, atI_last xs (.ref r), Nat.zero_le _, fun e ne => ?_⟩
              have s8 := Same.new (o := .lst []) ne
              refine ⟨.list [], .list [], .lst (SqL.of (s8 _ _ g2)) .nil, .lst (SqL.of upd_same) .nil, rfl, rfl, _, rfl, iteF (iteF ?_)⟩
              exact ⟨_, _, _, _, _, _, _, _, _, _, _, rfl, S7.same s8, by omega, by omega, by omega, by omega⟩
            · have pos := List.length_pos_iff.mpr nl
              refine .inr ⟨pos, fun H7 t7 g7 e7 tr7 kp7 tr7' => ?_⟩
              refine ⟨rfl, _, rfl, iteF ?_⟩
              have st7 := S6.st.mv kp7 (fun u hu => by
                cases List.mem_singleton.mp hu
                exact .inr (.inr (.inl ⟨_, _, _, tr7.1⟩)))
              obtain ⟨ls, f, rfl⟩ : ∃ ls f, l' = ls ++ [f] := ⟨l'.dropLast, l'.getLast nl, (List.dropLast_concat_getLast nl).symm⟩
              obtain ⟨xs, r, g1, g2, g3, g4, g5⟩ := id st7
              have mp : (ls ++ [f]).map oV = ls.map oV ++ [oV f] := by rw [List.map_append]; rfl
              refine ⟨_, rfl, _, rfl, sa', _, _, .ref r, rfl, rfl, SqL.of g1, atI_last xs (.ref r), Nat.zero_le _, fun e ne => ?_⟩
              have s8 := Same.new (o := .lst []) ne
              refine ⟨.list ((ls ++ [f]).map dO), .list [], .lst (SqL.of (s8 _ _ g2)) (dpAll_o _), .lst (SqL.of upd_same) .nil, shaped_o S6.ok, rfl, _, rfl, ?_⟩
              rw [top_ne, decide_eq_true pos]
              have g2' := g2
              rw [mp] at g2'
              refine iteT ?_
              refine ⟨_, rfl, _, rfl, sa', _, _, .ref r, rfl, rfl, SqL.of (s8 _ _ g1), atI_last xs (.ref r), _, rfl, r, _, _, oV f, rfl, rfl, SqL.of (s8 _ _ g2'), atI_last _ _, rfl, _, rfl, ?_⟩
              rw [lastO_app] at tr7'
              cases f with
              | some u =>
                refine iteF ⟨_, _, _, _, _, _, _, _, _, _, _, rfl, doom_st S6 e7 tr7 kp7 (by rw [lastO_app]; exact tr7') nl s8 (st7.same s8) S6.ok, by omega, by omega, by omega, by omega⟩
              | none =>
                refine iteT ?_
                refine ⟨_, rfl, _, rfl, _, rfl, sa', _, rfl, SqL.of (s8 _ _ g1), fun p1 np1 => ?_⟩
                rw [cut_last]
                have s9 := s8.trans (Same.new (o := .lst xs) np1)
                refine ⟨_, rfl, _, rfl, sa', _, _, .ref r, rfl, rfl, SqL.of (s9 _ _ g1), atI_last xs (.ref r), _, rfl, _, rfl, r, _, rfl, SqL.of (s9 _ _ g2'), fun p2 np2 => ?_⟩
                rw [cut_last]
                have sa2 := Same.new (o := .lst (ls.map oV)) np2
                refine ⟨_, rfl, one, fun p3 np3 => ?_⟩
                have sa3 := Same.new (o := .lst [.str w]) np3
                have lls : ls.length ≤ 100 := by
                  rw [List.length_append, List.length_singleton] at hl'
                  omega
                refine ⟨p2, p3, _, _, rfl, rfl, sa3 _ _ upd_same, upd_same, (by rw [List.length_map]; exact Nat.le_of_lt (small1000 (by show ls.length + 1 ≤ 1000; omega))), fun p4 np4 => ⟨one, fun p5 np5 => ?_⟩⟩
                have sa4 := Same.new (o := .lst (ls.map oV ++ [.str w])) np4
                have sa5 := Same.new (o := .lst [.ref p4]) np5
                refine ⟨p1, p5, _, _, rfl, rfl, (sa2.trans (sa3.trans (sa4.trans sa5))) _ _ upd_same, upd_same, Nat.le_of_lt (small1000 (by show xs.length + 1 ≤ 1000; omega)), fun p6 np6 => ?_⟩
                have sa6 := Same.new (o := .lst (xs ++ [.ref p4])) np6
                have sAll := s9.trans (sa2.trans (sa3.trans (sa4.trans (sa5.trans sa6))))
                have nb7 : H7 q.b ≠ none := fun z => by
                  have u7 := kp7 _ _ S6.db.2 (by simpa using (S6.db.dt tr7).2.2.2.1.symm)
                  rw [u7] at z
                  cases z
                have mp2 : (ls ++ [some w]).map oV = ls.map oV ++ [.str w] := by rw [List.map_append]; rfl
                have len2 : (ls ++ [some w]).length = (ls ++ [none]).length := by rw [List.length_append, List.length_append]; rfl
                refine ⟨_, _, p6, ls ++ [some w], m + 1, _, _, _, _, _, _, rfl, doom_st S6 e7 tr7 kp7 (by rw [lastO_app, len2]; exact tr7') (by simp) sAll ⟨xs, p4, upd_same, ?_, g3, ?_, ?_⟩ ?_, by omega, by rw [len2]; omega, by omega, by omega⟩
                · rw [mp2]
                  exact sa6 _ _ (sa5 _ _ upd_same)
                · exact fun z => nb7 (s9.free (sa2.free (sa3.free (sa4.free (sa5.free (by rw [← z]; exact np6))))))
                · exact fun z => nb7 (s9.free (sa2.free (sa3.free (by rw [← z]; exact np4))))
                · intro u hu
                  rcases List.mem_append.mp hu with hu | hu
                  · exact S6.ok u (List.mem_append_left _ hu)
                  · have hu := List.mem_singleton.mp hu
                    injection hu with hu
                    rw [hu]
                    exact hw
          · exact ⟨_, _, _, _, _, _, _, _, _, _, _, rfl, S5, by omega, by omega, by omega, by omega⟩
        · rintro σ' H5 ⟨uP5, bs5, sa5, l5, m5, n5, v7, v8, v9, v10, v11, rfl, S5, hm5, hl5, hb5, hn5⟩
          refine ⟨_, rfl, _, rfl, _, rfl, x, sa5, q.b, q, bs5, uP5, l5, m5, rfl, S5.db, S5.tr.pr, S5.st, S5.ok, by omega, by omega, fun H6 s6 => ⟨_, rfl, iteF ?_⟩⟩
          exact ⟨_, _, _, _, _, _, _, _, _, _, _, rfl, S5.same s6, hm5, hl5, hb5, by omega⟩
      · rintro σ H2 ⟨uP, bs, sa, l, m, n, v7, v8, v9, v10, v11, rfl, S, hm, hl, hb, hn⟩
        have hq1 : ∀ {H' : Hp} {uP bs}, DbAt c.D H' x q uP bs → H' q.b ≠ none := fun h z => by
          rw [h.2] at z
          cases z
        have hd13 : d0.toNat ≤ 13 := by omega
        refine ⟨_, rfl, md, rfl, ⟨_, SqL.of (S.s _ _ hm1)⟩, for_list (K := K) (a := md) (xs := modesV) (fun j σ H' => ∃ v8 v9 v10 : Option V, σ = [some (.ref a), some (.ref md), some (.int (0 + (i : Int))), some (.ref p), some (.ref x), some (.ref sa), some (.int bs.length), v7, v8, v9, v10, v11] ∧
          LawSt c H1 H' p x q uP bs sa l m n) ⟨_, _, _, rfl, S⟩ (fun j σ H' _ ⟨_, _, _, _, S'⟩ => SqL.of (S'.s _ _ hm1)) ?_ ?_⟩
        · rintro j y σ H3 hj ⟨v8, v9, v10, rfl, S3⟩
          obtain ⟨z, rfl, hzm⟩ : ∃ z : Str, y = .str z ∧ z ∈ modesS := by
            unfold modesV at hj
            rw [List.getElem?_map] at hj
            cases e : modesS[j]? with
            | none =>
              rw [e] at hj
              cases hj
            | some z =>
              rw [e] at hj
              exact ⟨z, (Option.some.inj hj).symm, List.mem_of_getElem? e⟩
          refine ⟨_, rfl, _, rfl, sa, q.b, z, l, m, rfl, hzm, S3.st, hq1 S3.db, by omega, by omega, S3.ok, fun H4 y sa' ev s4 re hy st' => ?_⟩
          refine ⟨y, _, rfl, SqT.of hy, rfl, _, _, rfl, _, _, rfl, rfl, ?_⟩
          have S4 := S3.same s4
          have tl := topOf_len (ent l.length (lastO l) z) l
          refine ⟨fun σ' H' => ∃ (ev : V) (sa' : Addr), σ' = [some (.ref a), some (.ref md), some (.int (0 + (i : Int))), some (.ref p), some (.ref x), some (.ref sa), some (.int bs.length), v7, some (.str z), some ev, some (.ref sa'), v11] ∧
            ((ev ≠ .non ∧ LawSt c H1 H' p x q uP bs sa l m n) ∨ (ev = .non ∧ ∃ (uP' : V) (y' : Addr) (l' : List (Option Str)), LawSt c H1 H' p x q uP' (bs ++ [.ref y']) sa' l' (m + 1) n ∧ l'.length ≤ 500 ∧ ∃ Hb : Hp, Same Hb H' ∧ Back c H1 H' p x q uP' uP bs y' sa l m n)), ?_, ?_⟩
          · refine ⟨_, rfl, _, rfl, x, q, bs, z, uP, l.length, lastO l, rfl, hzm, S4.db, S4.tr.pr, by omega, by omega, fun a' b' ee H5 e s5 he => ?_, fun ee => ?_⟩
            · rw [ee] at re
              obtain ⟨e2, rfl, he2⟩ := re
              have sh := two_shaped (err_ok hzm S.ok ee)
              refine ⟨_, rfl, .tuple [.str a', .str b'], .tuple [.str a', .str b'], .tup (SqT.of he) (.cons (.str _) (.cons (.str _) .nil)), .tup (SqT.of (s5 _ _ he2)) (.cons (.str _) (.cons (.str _) .nil)), sh.1, sh.1, _, rfl, ?_⟩
              rw [sh.2]
              rw [topOf_err ee] at st'
              have S5 := S4.same s5
              refine iteF ⟨_, rfl, _, rfl, _, rfl, _, rfl, rfl, .inr ⟨_, rfl, _, _, rfl, rfl, ?_⟩⟩
              refine ⟨x, sa', q.b, q, bs, uP, l, m + 1, (by
                show [V.ref x, V.ref sa', V.int ((bs.length : Int) + (if decide (V.ref e2 = V.non) = true then 1 else 0))] = _
                rw [decide_eq_false (by intro z; cases z)]
                simp), S5.db, S5.tr.pr, st'.same s5, S5.ok, by omega, by omega, fun H6 s6 => ⟨_, rfl, iteF ?_⟩⟩
              exact ⟨_, _, rfl, .inl ⟨(by intro z; cases z), S5.same s6⟩⟩
            · rw [ee] at re
              have re : ev = .non := re
              subst re
              refine enter_st S4 st' ee (by omega) fun H5 uP' y' S5 B5 => ?_
              refine ⟨_, rfl, .none, .none, .non, .non, rfl, rfl, _, rfl, ?_⟩
              refine iteF ⟨_, rfl, _, rfl, _, rfl, _, rfl, rfl, .inr ⟨_, rfl, _, _, rfl, rfl, ?_⟩⟩
              refine ⟨x, sa', q.b, q, _, uP', _, m + 1, (by
                show [V.ref x, V.ref sa', V.int ((bs.length : Int) + (if decide (V.non = V.non) = true then 1 else 0))] = [V.ref x, V.ref sa', V.int (((bs ++ [V.ref y']).length : Nat) : Int)]
                rw [decide_eq_true rfl]
                simp), S5.db, S5.tr.pr, S5.st, S5.ok, by rw [List.length_append, List.length_singleton]; omega, by omega, fun H6 s6 => ⟨_, rfl, iteF ?_⟩⟩
              exact ⟨_, _, rfl, .inr ⟨rfl, uP', y', _, S5.same s6, by omega, H5, s6, B5.same s6⟩⟩
          · rintro σ' H5 ⟨ev, sa', rfl, h5⟩
            refine ⟨fun σ' H' => ∃ v9 v10 : Option V, σ' = [some (.ref a), some (.ref md), some (.int (0 + (i : Int))), some (.ref p), some (.ref x), some (.ref sa), some (.int bs.length), v7, some (.str z), v9, v10, v11] ∧ LawSt c H1 H' p x q uP bs sa l m n, ?_, ?_⟩
            · rcases h5 with ⟨ne, S5⟩ | ⟨rfl, uP', y', l', S5, hl', _, _, B5⟩
              · refine ⟨_, rfl, rfl, _, rfl, ?_⟩
                rw [decide_eq_false ne]
                exact iteF (iteF ⟨_, _, rfl, S5⟩)
              · refine ⟨_, rfl, rfl, _, rfl, iteT ?_⟩
                obtain ⟨eff, hy', hB⟩ := B5
                refine ⟨_, rfl, x, q.dx, _, rfl, S5.db.1, rfl, x, q, bs, y', eff, uP, uP', l'.length, lastO l', rfl, S5.db, S5.tr.pr, by omega, hy', by omega, hB _ fun H6 S6 => ?_⟩
                exact ⟨rfl, _, rfl, iteF ⟨_, _, rfl, S6⟩⟩
            · rintro σ' H6 ⟨v9, v10, rfl, S6⟩
              refine ⟨_, rfl, _, rfl, _, rfl, x, sa, q.b, q, bs, uP, l, m, rfl, S6.db, S6.tr.pr, S6.st, S6.ok, by omega, by omega, fun H7 s7 => ⟨_, rfl, iteF ?_⟩⟩
              exact ⟨_, _, _, rfl, S6.same s7⟩
        · rintro σ H3 ⟨v8, v9, v10, rfl, S3⟩
          exact ⟨_, _, _, _, _, _, _, _, _, _, rfl, s1.trans S3.s, S3.s _ _ hm1⟩
    · rintro σ H1 ⟨v2, v3, v4, v5, v6, v7, v8, v9, v10, v11, rfl, s1, hm1⟩
      exact k H1
end
end IC
namespace IC
open PySem L2 TL
theorem all_mk {l : PySem.W.OpenLaw} {w : World} {K : PySem.W.Frag} {h : Heap} {mg : Str → Option Value} {fa f0 f1 f2 f3 f4 f5 f6 f7 f8 f9 f10 f11 f12 f13 f14 f15 f16 f17 f18 f19 f20 f21 f22 f23 f24 f25 f26 f27 : Addr} (X : K.In h) (G : h.Ns mainGlobals mg) (hfa : mg "law" = some (.ref fa))
    {od0 an0 od1 an1 od2 an2 od3 an3 od4 an4 od5 an5 od6 an6 od7 an7 od8 an8 od9 an9 od10 an10 od11 an11 od12 an12 od13 an13 od14 an14 od15 an15 od16 an16 od17 an17 od18 an18 od19 an19 od20 an20 od21 an21 od22 an22 od23 an23 od24 an24 od25 an25 od26 an26 od27 an27 : Option Addr} {sl0 sl1 sl2 sl3 sl4 sl5 sl6 sl7 sl8 sl9 sl10 sl11 sl12 sl13 sl14 sl15 sl16 sl17 sl18 sl19 sl20 sl21 sl22 sl23 sl24 sl25 sl26 sl27 : Array (Option Value)} {oc0 kV0 dc0 pm0 cd0 ct0 oc1 kV1 dc1 pm1 cd1 ct1 oc2 kV2 dc2 pm2 cd2 ct2 oc3 kV3 dc3 pm3 cd3 ct3 oc4 kV4 dc4 pm4 cd4 ct4 oc5 kV5 dc5 pm5 cd5 ct5 oc6 kV6 dc6 pm6 cd6 ct6 oc7 kV7 dc7 pm7 cd7 ct7 oc8 kV8 dc8 pm8 cd8 ct8 oc9 kV9 dc9 pm9 cd9 ct9 oc10 kV10 dc10 pm10 cd10 ct10 oc11 kV11 dc11 pm11 cd11 ct11 oc12 kV12 dc12 pm12 cd12 ct12 oc13 kV13 dc13 pm13 cd13 ct13 oc14 kV14 dc14 pm14 cd14 ct14 oc15 kV15 dc15 pm15 cd15 ct15 oc16 kV16 dc16 pm16 cd16 ct16 oc17 kV17 dc17 pm17 cd17 ct17 oc18 kV18 dc18 pm18 cd18 ct18 oc19 kV19 dc19 pm19 cd19 ct19 oc20 kV20 dc20 pm20 cd20 ct20 oc21 kV21 dc21 pm21 cd21 ct21 oc22 dc22 pm22 cd22 ct22 oc23 kV23 dc23 pm23 cd23 ct23 oc24 kV24 dc24 pm24 cd24 ct24 oc25 kV25 dc25 pm25 cd25 ct25 oc26 kV26 dc26 pm26 cd26 ct26 oc27 kV27 dc27 pm27 cd27 ct27 : Value} {CM pM tM : Addr} {rsM : List Value} {ddM : Option Addr} {nM : Nat} {slM : Array (Option Value)} {y0 y1 y2 y3 y4 y5 y6 y7 w0 w1 w2 w3 w4 w5 w6 w7 : Tok} {CD CT E1 E2 E3 CI TL KL TD : Addr} {odL odD : Option Addr} {nL nD : Nat} {slL slD : Array (Option Value)} {tk0 tk1 tk2 tkD : Tok} {nm1 q1 : Str} {N1 : Addr} {bs1 : List Value} {sn1 : List Str} {su1 : List Value} {ab1 : Bool} {co1 : Option Bool} {dd1 : Option Addr} {ka1 kb1 kc1 kd1 ke1 : Option Value} {nm2 q2 : Str} {N2 : Addr} {bs2 : List Value} {sn2 : List Str} {su2 : List Value} {ab2 : Bool} {co2 : Option Bool} {dd2 : Option Addr} {ka2 kb2 kc2 kd2 ke2 : Option Value} {nm3 q3 : Str} {N3 : Addr} {bs3 : List Value} {sn3 : List Str} {su3 : List Value} {ab3 : Bool} {co3 : Option Bool} {dd3 : Option Addr} {ka3 kb3 kc3 kd3 ke3 : Option Value} {p14 : Addr} {rs14 : List Value} {p15 : Addr} {rs15 : List Value} {p16 : Addr} {rs16 : List Value} {p17 : Addr} {rs17 : List Value} {p18 : Addr} {rs18 : List Value}
    (a0 : PySem.W.nsIn K mainGlobals "_law_pool" = some (some (.ref f0))) (l0 : K.lookup f0 = some ⟨oc0, od0, .func (PySem.W.fnOf "_law_pool" "_law_pool" (defArgs s_law_pool) (defBody s_law_pool) (defScope s_law_pool) .none kV0 dc0 pm0 an0 cd0 ct0), sl0⟩) (c0 : PySem.W.codeIn K cd0 "_law_pool" = true) (k0 : PySem.W.keepIn K (.ref f0) = true)
    (a1 : PySem.W.nsIn K mainGlobals "_law_draw" = some (some (.ref f1))) (l1 : K.lookup f1 = some ⟨oc1, od1, .func (PySem.W.fnOf "_law_draw" "_law_draw" (defArgs s_law_draw) (defBody s_law_draw) (defScope s_law_draw) .none kV1 dc1 pm1 an1 cd1 ct1), sl1⟩) (c1 : PySem.W.codeIn K cd1 "_law_draw" = true) (k1 : PySem.W.keepIn K (.ref f1) = true)
    (a2 : PySem.W.nsIn K mainGlobals "_law_word" = some (some (.ref f2))) (l2 : K.lookup f2 = some ⟨oc2, od2, .func (PySem.W.fnOf "_law_word" "_law_word" (defArgs s_law_word) (defBody s_law_word) (defScope s_law_word) .none kV2 dc2 pm2 an2 cd2 ct2), sl2⟩) (c2 : PySem.W.codeIn K cd2 "_law_word" = true) (k2 : PySem.W.keepIn K (.ref f2) = true)
    (a3 : PySem.W.nsIn K mainGlobals "is_word" = some (some (.ref f3))) (l3 : K.lookup f3 = some ⟨oc3, od3, .func (PySem.W.fnOf "is_word" "is_word" (defArgs s_is_word) (defBody s_is_word) (defScope s_is_word) .none kV3 dc3 pm3 an3 cd3 ct3), sl3⟩) (c3 : PySem.W.codeIn K cd3 "is_word" = true) (k3 : PySem.W.keepIn K (.ref f3) = true)
    (a4 : PySem.W.recIn K pM "staticmethod" = some (.ref f4 :: rsM)) (l4 : K.lookup f4 = some ⟨oc4, od4, .func (PySem.W.fnOf "is_mode" "Mode.is_mode" (defArgs s_Mode_is_mode) (defBody s_Mode_is_mode) (defScope s_Mode_is_mode) .none kV4 dc4 pm4 an4 cd4 ct4), sl4⟩) (c4 : PySem.W.codeIn K cd4 "Mode.is_mode" = true) (k4 : PySem.W.keepIn K (.ref f4) = true)
    (a5 : PySem.W.findIn K (.ref E1) "__init__" = some (some (.ref f5))) (l5 : K.lookup f5 = some ⟨oc5, od5, .func (PySem.W.fnOf "__init__" "Missing.__init__" (defArgs s_Missing___init__) (defBody s_Missing___init__) (defScope s_Missing___init__) .none kV5 dc5 pm5 an5 cd5 ct5), sl5⟩) (c5 : PySem.W.codeIn K cd5 "Missing.__init__" = true) (k5 : PySem.W.keepIn K (.ref f5) = true) (t5 : PySem.W.typeIn K (.ref f5) = some (.type "function"))
    (a6 : PySem.W.findIn K (.ref E2) "__init__" = some (some (.ref f6))) (l6 : K.lookup f6 = some ⟨oc6, od6, .func (PySem.W.fnOf "__init__" "Present.__init__" (defArgs s_Present___init__) (defBody s_Present___init__) (defScope s_Present___init__) .none kV6 dc6 pm6 an6 cd6 ct6), sl6⟩) (c6 : PySem.W.codeIn K cd6 "Present.__init__" = true) (k6 : PySem.W.keepIn K (.ref f6) = true) (t6 : PySem.W.typeIn K (.ref f6) = some (.type "function"))
    (a7 : PySem.W.findIn K (.ref E3) "__init__" = some (some (.ref f7))) (l7 : K.lookup f7 = some ⟨oc7, od7, .func (PySem.W.fnOf "__init__" "Doomed.__init__" (defArgs s_Doomed___init__) (defBody s_Doomed___init__) (defScope s_Doomed___init__) .none kV7 dc7 pm7 an7 cd7 ct7), sl7⟩) (c7 : PySem.W.codeIn K cd7 "Doomed.__init__" = true) (k7 : PySem.W.keepIn K (.ref f7) = true) (t7 : PySem.W.typeIn K (.ref f7) = some (.type "function"))
    (a8 : PySem.W.findIn K (.ref CT) "__init__" = some (some (.ref f8))) (l8 : K.lookup f8 = some ⟨oc8, od8, .func (PySem.W.fnOf "__init__" "Transaction.__init__" (defArgs s_Transaction___init__) (defBody s_Transaction___init__) (defScope s_Transaction___init__) .none kV8 dc8 pm8 an8 cd8 ct8), sl8⟩) (c8 : PySem.W.codeIn K cd8 "Transaction.__init__" = true) (k8 : PySem.W.keepIn K (.ref f8) = true) (i8 : PySem.W.isFn K (.ref f8) = true)
    (a9 : PySem.W.findIn K (.ref CT) "doom" = some (some (.ref f9))) (l9 : K.lookup f9 = some ⟨oc9, od9, .func (PySem.W.fnOf "doom" "Transaction.doom" (defArgs s_Transaction_doom) (defBody s_Transaction_doom) (defScope s_Transaction_doom) .none kV9 dc9 pm9 an9 cd9 ct9), sl9⟩) (c9 : PySem.W.codeIn K cd9 "Transaction.doom" = true) (k9 : PySem.W.keepIn K (.ref f9) = true) (i9 : PySem.W.isFn K (.ref f9) = true)
    (a10 : PySem.W.findIn K (.ref CD) "__init__" = some (some (.ref f10))) (l10 : K.lookup f10 = some ⟨oc10, od10, .func (PySem.W.fnOf "__init__" "Database.__init__" (defArgs s_Database___init__) (defBody s_Database___init__) (defScope s_Database___init__) .none kV10 dc10 pm10 an10 cd10 ct10), sl10⟩) (c10 : PySem.W.codeIn K cd10 "Database.__init__" = true) (k10 : PySem.W.keepIn K (.ref f10) = true) (i10 : PySem.W.isFn K (.ref f10) = true)
    (a11 : PySem.W.findIn K (.ref CD) "_enter_free" = some (some (.ref f11))) (l11 : K.lookup f11 = some ⟨oc11, od11, .func (PySem.W.fnOf "_enter_free" "Database._enter_free" (defArgs s_Database__enter_free) (defBody s_Database__enter_free) (defScope s_Database__enter_free) .none kV11 dc11 pm11 an11 cd11 ct11), sl11⟩) (c11 : PySem.W.codeIn K cd11 "Database._enter_free" = true) (k11 : PySem.W.keepIn K (.ref f11) = true) (i11 : PySem.W.isFn K (.ref f11) = true)
    (a12 : PySem.W.findIn K (.ref CD) "_enter_present" = some (some (.ref f12))) (l12 : K.lookup f12 = some ⟨oc12, od12, .func (PySem.W.fnOf "_enter_present" "Database._enter_present" (defArgs s_Database__enter_present) (defBody s_Database__enter_present) (defScope s_Database__enter_present) .none kV12 dc12 pm12 an12 cd12 ct12), sl12⟩) (c12 : PySem.W.codeIn K cd12 "Database._enter_present" = true) (k12 : PySem.W.keepIn K (.ref f12) = true) (i12 : PySem.W.isFn K (.ref f12) = true)
    (a13 : PySem.W.findIn K (.ref CD) "enter" = some (some (.ref f13))) (l13 : K.lookup f13 = some ⟨oc13, od13, .func (PySem.W.fnOf "enter" "Database.enter" (defArgs s_Database_enter) (defBody s_Database_enter) (defScope s_Database_enter) .none kV13 dc13 pm13 an13 cd13 ct13), sl13⟩) (c13 : PySem.W.codeIn K cd13 "Database.enter" = true) (k13 : PySem.W.keepIn K (.ref f13) = true) (i13 : PySem.W.isFn K (.ref f13) = true)
    (a14 : PySem.W.findIn K (.ref CD) "reason" = some (some (.ref p14))) (g14 : PySem.W.specialIn K (.ref p14) "__get__" = some (some (.builtin "property.__get__"))) (t14 : PySem.W.takesIn K (.ref p14) = some true) (r14 : PySem.W.recIn K p14 "property" = some (.ref f14 :: rs14)) (l14 : K.lookup f14 = some ⟨oc14, od14, .func (PySem.W.fnOf "reason" "Database.reason" (defArgs s_Database_reason) (defBody s_Database_reason) (defScope s_Database_reason) .none kV14 dc14 pm14 an14 cd14 ct14), sl14⟩) (c14 : PySem.W.codeIn K cd14 "Database.reason" = true) (k14 : PySem.W.keepIn K (.ref f14) = true)
    (a15 : PySem.W.findIn K (.ref CD) "is_open" = some (some (.ref p15))) (g15 : PySem.W.specialIn K (.ref p15) "__get__" = some (some (.builtin "property.__get__"))) (t15 : PySem.W.takesIn K (.ref p15) = some true) (r15 : PySem.W.recIn K p15 "property" = some (.ref f15 :: rs15)) (l15 : K.lookup f15 = some ⟨oc15, od15, .func (PySem.W.fnOf "is_open" "Database.is_open" (defArgs s_Database_is_open) (defBody s_Database_is_open) (defScope s_Database_is_open) .none kV15 dc15 pm15 an15 cd15 ct15), sl15⟩) (c15 : PySem.W.codeIn K cd15 "Database.is_open" = true) (k15 : PySem.W.keepIn K (.ref f15) = true)
    (a16 : PySem.W.findIn K (.ref CD) "is_doomed" = some (some (.ref p16))) (g16 : PySem.W.specialIn K (.ref p16) "__get__" = some (some (.builtin "property.__get__"))) (t16 : PySem.W.takesIn K (.ref p16) = some true) (r16 : PySem.W.recIn K p16 "property" = some (.ref f16 :: rs16)) (l16 : K.lookup f16 = some ⟨oc16, od16, .func (PySem.W.fnOf "is_doomed" "Database.is_doomed" (defArgs s_Database_is_doomed) (defBody s_Database_is_doomed) (defScope s_Database_is_doomed) .none kV16 dc16 pm16 an16 cd16 ct16), sl16⟩) (c16 : PySem.W.codeIn K cd16 "Database.is_doomed" = true) (k16 : PySem.W.keepIn K (.ref f16) = true)
    (a17 : PySem.W.findIn K (.ref CD) "levels" = some (some (.ref p17))) (g17 : PySem.W.specialIn K (.ref p17) "__get__" = some (some (.builtin "property.__get__"))) (t17 : PySem.W.takesIn K (.ref p17) = some true) (r17 : PySem.W.recIn K p17 "property" = some (.ref f17 :: rs17)) (l17 : K.lookup f17 = some ⟨oc17, od17, .func (PySem.W.fnOf "levels" "Database.levels" (defArgs s_Database_levels) (defBody s_Database_levels) (defScope s_Database_levels) .none kV17 dc17 pm17 an17 cd17 ct17), sl17⟩) (c17 : PySem.W.codeIn K cd17 "Database.levels" = true) (k17 : PySem.W.keepIn K (.ref f17) = true)
    (a18 : PySem.W.findIn K (.ref CD) "depth" = some (some (.ref p18))) (g18 : PySem.W.specialIn K (.ref p18) "__get__" = some (some (.builtin "property.__get__"))) (t18 : PySem.W.takesIn K (.ref p18) = some true) (r18 : PySem.W.recIn K p18 "property" = some (.ref f18 :: rs18)) (l18 : K.lookup f18 = some ⟨oc18, od18, .func (PySem.W.fnOf "depth" "Database.depth" (defArgs s_Database_depth) (defBody s_Database_depth) (defScope s_Database_depth) .none kV18 dc18 pm18 an18 cd18 ct18), sl18⟩) (c18 : PySem.W.codeIn K cd18 "Database.depth" = true) (k18 : PySem.W.keepIn K (.ref f18) = true)
    (a19 : PySem.W.findIn K (.ref CD) "_keep" = some (some (.ref f19))) (l19 : K.lookup f19 = some ⟨oc19, od19, .func (PySem.W.fnOf "_keep" "Database._keep" (defArgs s_Database__keep) (defBody s_Database__keep) (defScope s_Database__keep) .none kV19 dc19 pm19 an19 cd19 ct19), sl19⟩) (c19 : PySem.W.codeIn K cd19 "Database._keep" = true) (k19 : PySem.W.keepIn K (.ref f19) = true) (i19 : PySem.W.isFn K (.ref f19) = true)
    (a20 : PySem.W.findIn K (.ref CD) "_end_level" = some (some (.ref f20))) (l20 : K.lookup f20 = some ⟨oc20, od20, .func (PySem.W.fnOf "_end_level" "Database._end_level" (defArgs s_Database__end_level) (defBody s_Database__end_level) (defScope s_Database__end_level) .none kV20 dc20 pm20 an20 cd20 ct20), sl20⟩) (c20 : PySem.W.codeIn K cd20 "Database._end_level" = true) (k20 : PySem.W.keepIn K (.ref f20) = true) (i20 : PySem.W.isFn K (.ref f20) = true)
    (a21 : PySem.W.findIn K (.ref CD) "_end_block" = some (some (.ref f21))) (l21 : K.lookup f21 = some ⟨oc21, od21, .func (PySem.W.fnOf "_end_block" "Database._end_block" (defArgs s_Database__end_block) (defBody s_Database__end_block) (defScope s_Database__end_block) .none kV21 dc21 pm21 an21 cd21 ct21), sl21⟩) (c21 : PySem.W.codeIn K cd21 "Database._end_block" = true) (k21 : PySem.W.keepIn K (.ref f21) = true) (i21 : PySem.W.isFn K (.ref f21) = true)
    (a22 : PySem.W.findIn K (.ref CD) "leave" = some (some (.ref f22))) (l22 : K.lookup f22 = some ⟨oc22, od22, .func (PySem.W.fnOf "leave" "Database.leave" (defArgs s_Database_leave) (defBody s_Database_leave) (defScope s_Database_leave) (.ref TL) (.ref KL) dc22 pm22 an22 cd22 ct22), sl22⟩) (c22 : PySem.W.codeIn K cd22 "Database.leave" = true) (k22 : PySem.W.keepIn K (.ref f22) = true) (i22 : PySem.W.isFn K (.ref f22) = true)
    (a23 : PySem.W.findIn K (.ref CD) "doom" = some (some (.ref f23))) (l23 : K.lookup f23 = some ⟨oc23, od23, .func (PySem.W.fnOf "doom" "Database.doom" (defArgs s_Database_doom) (defBody s_Database_doom) (defScope s_Database_doom) (.ref TD) kV23 dc23 pm23 an23 cd23 ct23), sl23⟩) (c23 : PySem.W.codeIn K cd23 "Database.doom" = true) (k23 : PySem.W.keepIn K (.ref f23) = true) (i23 : PySem.W.isFn K (.ref f23) = true)
    (a24 : PySem.W.nsIn K mainGlobals "_law_entered" = some (some (.ref f24))) (l24 : K.lookup f24 = some ⟨oc24, od24, .func (PySem.W.fnOf "_law_entered" "_law_entered" (defArgs s_law_entered) (defBody s_law_entered) (defScope s_law_entered) .none kV24 dc24 pm24 an24 cd24 ct24), sl24⟩) (c24 : PySem.W.codeIn K cd24 "_law_entered" = true) (k24 : PySem.W.keepIn K (.ref f24) = true)
    (a25 : PySem.W.nsIn K mainGlobals "_law_enter" = some (some (.ref f25))) (l25 : K.lookup f25 = some ⟨oc25, od25, .func (PySem.W.fnOf "_law_enter" "_law_enter" (defArgs s_law_enter) (defBody s_law_enter) (defScope s_law_enter) .none kV25 dc25 pm25 an25 cd25 ct25), sl25⟩) (c25 : PySem.W.codeIn K cd25 "_law_enter" = true) (k25 : PySem.W.keepIn K (.ref f25) = true)
    (a26 : PySem.W.nsIn K mainGlobals "_law_shows" = some (some (.ref f26))) (l26 : K.lookup f26 = some ⟨oc26, od26, .func (PySem.W.fnOf "_law_shows" "_law_shows" (defArgs s_law_shows) (defBody s_law_shows) (defScope s_law_shows) .none kV26 dc26 pm26 an26 cd26 ct26), sl26⟩) (c26 : PySem.W.codeIn K cd26 "_law_shows" = true) (k26 : PySem.W.keepIn K (.ref f26) = true)
    (a27 : PySem.W.nsIn K mainGlobals "law" = some (some (.ref f27))) (l27 : K.lookup f27 = some ⟨oc27, od27, .func (PySem.W.fnOf "law" "law" (defArgs s_law) (defBody s_law) (defScope s_law) .none kV27 dc27 pm27 an27 cd27 ct27), sl27⟩) (c27 : PySem.W.codeIn K cd27 "law" = true) (k27 : PySem.W.keepIn K (.ref f27) = true)
    (z_int : PySem.W.nsIn K mainGlobals "int" = some none)
    (z_len : PySem.W.nsIn K mainGlobals "len" = some none)
    (z_abs : PySem.W.nsIn K mainGlobals "abs" = some none)
    (z_range : PySem.W.nsIn K mainGlobals "range" = some none)
    (z_max : PySem.W.nsIn K mainGlobals "max" = some none)
    (z_min : PySem.W.nsIn K mainGlobals "min" = some none)
    (z_isi : PySem.W.nsIn K mainGlobals "isinstance" = some none)
    (z_str : PySem.W.nsIn K mainGlobals "str" = some none)
    (z_all : PySem.W.nsIn K mainGlobals "all" = some none)
    (z_repr : PySem.W.nsIn K mainGlobals "repr" = some none)
    (mo : PySem.W.nsIn K mainGlobals "Mode" = some (some (.ref CM)))
    (mrd : PySem.W.readsIn K CM (.type "type") = true)
    (mga : PySem.W.specialIn K (.ref CM) "__getattribute__" = some (some (.builtin "type.__getattribute__")))
    (mall : PySem.W.findCls K (.ref CM) (.type "type") "ALL" = some (.val (.ref tM)))
    (mlt : K.lookup tM = some ⟨.type "tuple", ddM, .seq #[.str "join" y0, .str "inner" y1, .str "apart" y2, .str "must" y3, .str "either" y4, .str "never" y5, .str "outside" y6, .str "alone" y7] nM, slM⟩)
    (m0 : PySem.W.findCls K (.ref CM) (.type "type") "JOIN" = some (.val (.str "join" w0)))
    (m1 : PySem.W.findCls K (.ref CM) (.type "type") "INNER" = some (.val (.str "inner" w1)))
    (m2 : PySem.W.findCls K (.ref CM) (.type "type") "APART" = some (.val (.str "apart" w2)))
    (m3 : PySem.W.findCls K (.ref CM) (.type "type") "MUST" = some (.val (.str "must" w3)))
    (m4 : PySem.W.findCls K (.ref CM) (.type "type") "EITHER" = some (.val (.str "either" w4)))
    (m5 : PySem.W.findCls K (.ref CM) (.type "type") "NEVER" = some (.val (.str "never" w5)))
    (m6 : PySem.W.findCls K (.ref CM) (.type "type") "OUTSIDE" = some (.val (.str "outside" w6)))
    (m7 : PySem.W.findCls K (.ref CM) (.type "type") "ALONE" = some (.val (.str "alone" w7)))
    (msm : PySem.W.findCls K (.ref CM) (.type "type") "is_mode" = some (.get (.builtin "staticmethod.__get__") (.ref pM) .none (.ref CM)))
    (gDb : PySem.W.nsIn K mainGlobals "Database" = some (some (.ref CD)))
    (gT : PySem.W.nsIn K mainGlobals "Transaction" = some (some (.ref CT)))
    (g1G : PySem.W.nsIn K mainGlobals "Missing" = some (some (.ref E1)))
    (x1 : K.lookup E1 = some (excClassObj nm1 q1 E1 N1 bs1 [.ref CI, .type "ValueError", .type "Exception", .type "BaseException", .type "object"] true sn1 su1 ab1 co1 dd1 ka1 kb1 kc1 kd1 ke1 "ValueError.__new__"))
    (s1a : PySem.W.findIn K (.ref E1) "__setattr__" = some (some (.builtin "object.__setattr__")))
    (s1g : PySem.W.findIn K (.ref E1) "__getattribute__" = some (some (.builtin "BaseException.__getattribute__")))
    (s1h : PySem.W.findIn K (.ref E1) "__getattr__" = some none)
    (n1a : PySem.W.findIn K (.ref E1) "mode" = some none)
    (n1b : PySem.W.findIn K (.ref E1) "word" = some none)
    (kE1 : PySem.W.keepIn K (.ref E1) = true)
    (e1b : PySem.W.subIn K (.ref E1) (.type "BaseException") = some true)
    (e1t : PySem.W.typeIn K (.ref E1) = some (.type "type"))
    (e1h : PySem.W.hasDictIn K E1 = true)
    (e1c : PySem.W.isClsIn K E1 = true)
    (g2G : PySem.W.nsIn K mainGlobals "Present" = some (some (.ref E2)))
    (x2 : K.lookup E2 = some (excClassObj nm2 q2 E2 N2 bs2 [.ref CI, .type "ValueError", .type "Exception", .type "BaseException", .type "object"] true sn2 su2 ab2 co2 dd2 ka2 kb2 kc2 kd2 ke2 "ValueError.__new__"))
    (s2a : PySem.W.findIn K (.ref E2) "__setattr__" = some (some (.builtin "object.__setattr__")))
    (s2g : PySem.W.findIn K (.ref E2) "__getattribute__" = some (some (.builtin "BaseException.__getattribute__")))
    (s2h : PySem.W.findIn K (.ref E2) "__getattr__" = some none)
    (n2a : PySem.W.findIn K (.ref E2) "mode" = some none)
    (n2b : PySem.W.findIn K (.ref E2) "word" = some none)
    (kE2 : PySem.W.keepIn K (.ref E2) = true)
    (e2b : PySem.W.subIn K (.ref E2) (.type "BaseException") = some true)
    (e2t : PySem.W.typeIn K (.ref E2) = some (.type "type"))
    (e2h : PySem.W.hasDictIn K E2 = true)
    (e2c : PySem.W.isClsIn K E2 = true)
    (g3G : PySem.W.nsIn K mainGlobals "Doomed" = some (some (.ref E3)))
    (x3 : K.lookup E3 = some (excClassObj nm3 q3 E3 N3 bs3 [.ref CI, .type "ValueError", .type "Exception", .type "BaseException", .type "object"] true sn3 su3 ab3 co3 dd3 ka3 kb3 kc3 kd3 ke3 "ValueError.__new__"))
    (s3a : PySem.W.findIn K (.ref E3) "__setattr__" = some (some (.builtin "object.__setattr__")))
    (s3g : PySem.W.findIn K (.ref E3) "__getattribute__" = some (some (.builtin "BaseException.__getattribute__")))
    (s3h : PySem.W.findIn K (.ref E3) "__getattr__" = some none)
    (n3a : PySem.W.findIn K (.ref E3) "first" = some none)
    (n3b : PySem.W.findIn K (.ref E3) "word" = some none)
    (kE3 : PySem.W.keepIn K (.ref E3) = true)
    (e3b : PySem.W.subIn K (.ref E3) (.type "BaseException") = some true)
    (e3t : PySem.W.typeIn K (.ref E3) = some (.type "type"))
    (e3h : PySem.W.hasDictIn K E3 = true)
    (e3c : PySem.W.isClsIn K E3 = true)
    (u11 : PySem.W.subIn K (.ref E1) (.ref E1) = some true)
    (u21 : PySem.W.subIn K (.ref E2) (.ref E1) = some false)
    (u22 : PySem.W.subIn K (.ref E2) (.ref E2) = some true)
    (u31 : PySem.W.subIn K (.ref E3) (.ref E1) = some false)
    (u32 : PySem.W.subIn K (.ref E3) (.ref E2) = some false)
    (u33 : PySem.W.subIn K (.ref E3) (.ref E3) = some true)
    (pgD : PySem.W.plainGet K CD Str.empty = true)
    (hdD : PySem.W.hasDictIn K CD = true)
    (poD : PySem.W.plainOver K CD = true)
    (saD : PySem.W.findIn K (.ref CD) "__setattr__" = some (some (.builtin "object.__setattr__")))
    (mkD : PySem.W.makesIn K CD = true)
    (kpD : PySem.W.keepIn K (.ref CD) = true)
    (pgT : PySem.W.plainGet K CT Str.empty = true)
    (hdT : PySem.W.hasDictIn K CT = true)
    (poT : PySem.W.plainOver K CT = true)
    (saT : PySem.W.findIn K (.ref CT) "__setattr__" = some (some (.builtin "object.__setattr__")))
    (mkT : PySem.W.makesIn K CT = true)
    (kpT : PySem.W.keepIn K (.ref CT) = true)
    (nD0 : PySem.W.findIn K (.ref CD) "_present" = some none)
    (nD1 : PySem.W.findIn K (.ref CD) "_blocks" = some none)
    (nD2 : PySem.W.findIn K (.ref CD) "_floor" = some none)
    (nD3 : PySem.W.findIn K (.ref CD) "_made" = some none)
    (nD4 : PySem.W.findIn K (.ref CD) "_held" = some none)
    (nD5 : PySem.W.findIn K (.ref CD) "_kept" = some none)
    (nT0 : PySem.W.findIn K (.ref CT) "own" = some none)
    (nT1 : PySem.W.findIn K (.ref CT) "starts" = some none)
    (nT2 : PySem.W.findIn K (.ref CT) "first" = some none)
    (gC0 : PySem.W.nsIn K mainGlobals "ENDS" = some (some (.str "ends" tk0)))
    (gC1 : PySem.W.nsIn K mainGlobals "DOOMS" = some (some (.str "dooms" tk1)))
    (gC2 : PySem.W.nsIn K mainGlobals "NOTHING" = some (some (.str "nothing" tk2)))
    (lTL : K.lookup TL = some ⟨.type "tuple", odL, .seq #[.none] nL, slL⟩)
    (hKL : PySem.W.nsIn K KL "commits" = some (some (.bool true)))
    (lTD : K.lookup TD = some ⟨.type "tuple", odD, .seq #[.str "doom" tkD] nD, slD⟩)
    : ∃ fd : FuncData, (∀ (s : Shared) (v : Value), BindsTo s fd ⟨[v], []⟩ [("script", v)]) ∧ ∀ base : Heap, K.In base → base.Ns mainGlobals mg → FnG l.prog w K mg base 6 fa fd ["script"] (spLaw K) := by
  have e := hfa.symm.trans (PySem.W.mg_of X G a27)
  cases e
  have T : Bn mg := ⟨PySem.W.mg_none_of X G z_int, PySem.W.mg_none_of X G z_len, PySem.W.mg_none_of X G z_abs, PySem.W.mg_none_of X G z_range, PySem.W.mg_none_of X G z_max, PySem.W.mg_none_of X G z_min, PySem.W.mg_none_of X G z_isi, PySem.W.mg_none_of X G z_str, PySem.W.mg_none_of X G z_all, PySem.W.mg_none_of X G z_repr⟩
  have F0 := fun_mk (st := s_law_pool) l0 c0 k0
  have b0 := F0.binds (ps := ["script", "at"]) fun _ _ _ _ _ _ us hl => match us, hl with | [_, _], _ => rfl
  have F1 := fun_mk (st := s_law_draw) l1 c1 k1
  have b1 := F1.binds (ps := ["pool", "many"]) fun _ _ _ _ _ _ us hl => match us, hl with | [_, _], _ => rfl
  have F2 := fun_mk (st := s_law_word) l2 c2 k2
  have b2 := F2.binds (ps := ["pool"]) fun _ _ _ _ _ _ us hl => match us, hl with | [_], _ => rfl
  have F3 := fun_mk (st := s_is_word) l3 c3 k3
  have b3 := F3.binds (ps := ["thing"]) fun _ _ _ _ _ _ us hl => match us, hl with | [_], _ => rfl
  have F4 := fun_mk (st := s_Mode_is_mode) l4 c4 k4
  have b4 := F4.binds (ps := ["thing"]) fun _ _ _ _ _ _ us hl => match us, hl with | [_], _ => rfl
  have F5 := fun_mk (st := s_Missing___init__) l5 c5 k5
  have b5 := F5.binds (ps := ["self", "mode"]) fun _ _ _ _ _ _ us hl => match us, hl with | [_, _], _ => rfl
  have F6 := fun_mk (st := s_Present___init__) l6 c6 k6
  have b6 := F6.binds (ps := ["self", "mode"]) fun _ _ _ _ _ _ us hl => match us, hl with | [_, _], _ => rfl
  have F7 := fun_mk (st := s_Doomed___init__) l7 c7 k7
  have b7 := F7.binds (ps := ["self", "first"]) fun _ _ _ _ _ _ us hl => match us, hl with | [_, _], _ => rfl
  have F8 := fun_mk (st := s_Transaction___init__) l8 c8 k8
  have b8 := F8.binds (ps := ["self"]) fun _ _ _ _ _ _ us hl => match us, hl with | [_], _ => rfl
  have F9 := fun_mk (st := s_Transaction_doom) l9 c9 k9
  have b9 := F9.binds (ps := ["self", "first"]) fun _ _ _ _ _ _ us hl => match us, hl with | [_, _], _ => rfl
  have F10 := fun_mk (st := s_Database___init__) l10 c10 k10
  have b10 := F10.binds (ps := ["self"]) fun _ _ _ _ _ _ us hl => match us, hl with | [_], _ => rfl
  have F11 := fun_mk (st := s_Database__enter_free) l11 c11 k11
  have b11 := F11.binds (ps := ["self", "mode"]) fun _ _ _ _ _ _ us hl => match us, hl with | [_, _], _ => rfl
  have F12 := fun_mk (st := s_Database__enter_present) l12 c12 k12
  have b12 := F12.binds (ps := ["self", "mode", "present"]) fun _ _ _ _ _ _ us hl => match us, hl with | [_, _, _], _ => rfl
  have F13 := fun_mk (st := s_Database_enter) l13 c13 k13
  have b13 := F13.binds (ps := ["self", "mode"]) fun _ _ _ _ _ _ us hl => match us, hl with | [_, _], _ => rfl
  have F14 := fun_mk (st := s_Database_reason) l14 c14 k14
  have b14 := F14.binds (ps := ["self"]) fun _ _ _ _ _ _ us hl => match us, hl with | [_], _ => rfl
  have F15 := fun_mk (st := s_Database_is_open) l15 c15 k15
  have b15 := F15.binds (ps := ["self"]) fun _ _ _ _ _ _ us hl => match us, hl with | [_], _ => rfl
  have F16 := fun_mk (st := s_Database_is_doomed) l16 c16 k16
  have b16 := F16.binds (ps := ["self"]) fun _ _ _ _ _ _ us hl => match us, hl with | [_], _ => rfl
  have F17 := fun_mk (st := s_Database_levels) l17 c17 k17
  have b17 := F17.binds (ps := ["self"]) fun _ _ _ _ _ _ us hl => match us, hl with | [_], _ => rfl
  have F18 := fun_mk (st := s_Database_depth) l18 c18 k18
  have b18 := F18.binds (ps := ["self"]) fun _ _ _ _ _ _ us hl => match us, hl with | [_], _ => rfl
  have F19 := fun_mk (st := s_Database__keep) l19 c19 k19
  have b19 := F19.binds (ps := ["self", "transaction"]) fun _ _ _ _ _ _ us hl => match us, hl with | [_, _], _ => rfl
  have F20 := fun_mk (st := s_Database__end_level) l20 c20 k20
  have b20 := F20.binds (ps := ["self", "transaction", "error", "commits"]) fun _ _ _ _ _ _ us hl => match us, hl with | [_, _, _, _], _ => rfl
  have F21 := fun_mk (st := s_Database__end_block) l21 c21 k21
  have b21 := F21.binds (ps := ["self", "error", "commits"]) fun _ _ _ _ _ _ us hl => match us, hl with | [_, _, _], _ => rfl
  have F22 : FunD K "leave" "Database.leave" (defArgs s_Database_leave) (defBody s_Database_leave) (defScope s_Database_leave) [.non] [("commits", .bl true)] f22 _ := ⟨⟨_, _, _, _, _, _, _, _, _, _, rfl, l22, c22, .inr ⟨by simp, TL, _, _, _, rfl, lTL, rfl, .cons rfl .nil⟩, .inr ⟨KL, rfl, fun q hq => by
    have hq := List.mem_singleton.mp hq
    subst hq
    exact ⟨_, hKL, rfl⟩⟩⟩, k22⟩
  obtain ⟨dsL, vL, b22⟩ := F22.binds (ps := ["self", "error", "commits"]) 1 0 (by simp) rfl (fun T D doc pm an cdv ct us its ks h1 h2 h3 => match us, its, ks, h1, h2, h3 with | [_], [_], [_], _, _, _ => ⟨_, rfl, _, _, _, _, _, _, rfl, rfl, rfl⟩) (by simp)
  have F23 : FunD K "doom" "Database.doom" (defArgs s_Database_doom) (defBody s_Database_doom) (defScope s_Database_doom) [.str "doom"] [] f23 _ := ⟨⟨_, _, _, _, _, _, _, _, _, _, rfl, l23, c23, .inr ⟨by simp, TD, _, _, _, rfl, lTD, rfl, .cons ⟨_, rfl⟩ .nil⟩, .inl rfl⟩, k23⟩
  obtain ⟨dsD, vD, b23⟩ := F23.binds1 (ps := ["self", "first"]) 2 1 (by simp) rfl (fun T kV doc pm an cdv ct us its h1 h2 => match us, its, h1, h2 with | [_, _], [_], _, _ => ⟨_, rfl, rfl⟩)
  have F24 := fun_mk (st := s_law_entered) l24 c24 k24
  have b24 := F24.binds (ps := ["stack", "mode"]) fun _ _ _ _ _ _ us hl => match us, hl with | [_, _], _ => rfl
  have F25 := fun_mk (st := s_law_enter) l25 c25 k25
  have b25 := F25.binds (ps := ["db", "mode"]) fun _ _ _ _ _ _ us hl => match us, hl with | [_, _], _ => rfl
  have F26 := fun_mk (st := s_law_shows) l26 c26 k26
  have b26 := F26.binds (ps := ["db", "stack", "depth"]) fun _ _ _ _ _ _ us hl => match us, hl with | [_, _, _], _ => rfl
  have F27 := fun_mk (st := s_law) l27 c27 k27
  refine ⟨PySem.W.fnOf "law" "law" (defArgs s_law) (defBody s_law) (defScope s_law) .none kV27 dc27 pm27 an27 cd27 ct27, fun s v => .of_eq rfl, fun base hbK hbG => ?_⟩
  have conM : ∀ nm z : Str, (nm, z) ∈ ([("JOIN", "join"), ("INNER", "inner"), ("APART", "apart"), ("MUST", "must"), ("EITHER", "either"), ("NEVER", "never"), ("OUTSIDE", "outside"), ("ALONE", "alone")] : List (Str × Str)) → ∃ u, ClX.CVal K CM (.type "type") nm (.str z) u := by
    intro nm z hz
    simp only [List.mem_cons, List.not_mem_nil, or_false, Prod.mk.injEq] at hz
    rcases hz with ⟨rfl, rfl⟩ | ⟨rfl, rfl⟩ | ⟨rfl, rfl⟩ | ⟨rfl, rfl⟩ | ⟨rfl, rfl⟩ | ⟨rfl, rfl⟩ | ⟨rfl, rfl⟩ | ⟨rfl, rfl⟩
    · exact ⟨_, m0, ⟨_, rfl⟩⟩
    · exact ⟨_, m1, ⟨_, rfl⟩⟩
    · exact ⟨_, m2, ⟨_, rfl⟩⟩
    · exact ⟨_, m3, ⟨_, rfl⟩⟩
    · exact ⟨_, m4, ⟨_, rfl⟩⟩
    · exact ⟨_, m5, ⟨_, rfl⟩⟩
    · exact ⟨_, m6, ⟨_, rfl⟩⟩
    · exact ⟨_, m7, ⟨_, rfl⟩⟩
  have M : ModeTxt K mg CM pM f4 tM (.type "type") := { mo := PySem.W.mg_of X G mo, rd := ⟨mrd, mga⟩, all := ⟨mall, rfl⟩, tup := ⟨_, _, _, mlt, rfl, rfl, (by show 8 ≤ sizeLine; decide), .cons ⟨_, rfl⟩ (.cons ⟨_, rfl⟩ (.cons ⟨_, rfl⟩ (.cons ⟨_, rfl⟩ (.cons ⟨_, rfl⟩ (.cons ⟨_, rfl⟩ (.cons ⟨_, rfl⟩ (.cons ⟨_, rfl⟩ .nil)))))))⟩, con := conM, sm := ⟨⟨mrd, mga⟩, msm, ⟨_, a4⟩, k4⟩ }
  have bIM := b4
  have B : DbTxt K mg (⟨CD, CT, E1, E2, E3⟩ : Cs) := ⟨⟨pgD, hdD, poD, saD⟩, ⟨pgT, hdT, poT, saT⟩, nD0, nD1, nD2, nD3, nD4, nD5, nT0, nT1, nT2, ⟨_, PySem.W.mg_of X G gC0, ⟨_, rfl⟩⟩, ⟨_, PySem.W.mg_of X G gC1, ⟨_, rfl⟩⟩, ⟨_, PySem.W.mg_of X G gC2, ⟨_, rfl⟩⟩⟩
  have O1 : OexC K E1 := ⟨⟨_, _, _, _, _, _, _, _, _, _, _, _, _, _, _, x1, by rfl⟩, s1a, e1b, e1t, kE1⟩
  have X1 : XfC K E1 := ⟨s1g, s1h, e1b, e1h⟩
  have O2 : OexC K E2 := ⟨⟨_, _, _, _, _, _, _, _, _, _, _, _, _, _, _, x2, by rfl⟩, s2a, e2b, e2t, kE2⟩
  have X2 : XfC K E2 := ⟨s2g, s2h, e2b, e2h⟩
  have O3 : OexC K E3 := ⟨⟨_, _, _, _, _, _, _, _, _, _, _, _, _, _, _, x3, by rfl⟩, s3a, e3b, e3t, kE3⟩
  have X3 : XfC K E3 := ⟨s3g, s3h, e3b, e3h⟩
  have L : Clauses K mg (⟨CD, CT, E1, E2, E3⟩ : Cs) := ⟨PySem.W.mg_of X G g1G, PySem.W.mg_of X G g2G, PySem.W.mg_of X G g3G, X1, X2, X3, n1a, n2a, n3a, exm_pair e1b e1c e1t u11, exm_pair e1b e1c e1t u21, exm_pair e2b e2c e2t u22, exm_pair e1b e1c e1t u31, exm_pair e2b e2c e2t u32, exm_pair e3b e3c e3t u33⟩
  have D_law_pool : Df l.prog w K mg base 1 "_law_pool" ["script", "at"] (spPool K) := ⟨f0, _, ok_pool F0 T, PySem.W.mg_of X G a0, k0, b0⟩
  have D_law_draw : Df l.prog w K mg base 1 "_law_draw" ["pool", "many"] spDraw := ⟨f1, _, ok_draw F1 T, PySem.W.mg_of X G a1, k1, b1⟩
  have D_law_word : Df l.prog w K mg base 2 "_law_word" ["pool"] spWord := ⟨f2, _, ok_word F2 T D_law_draw, PySem.W.mg_of X G a2, k2, b2⟩
  have D_is_word : Df l.prog w K mg base 1 "is_word" ["thing"] (spIsWord K) := ⟨f3, _, ok_is_word F3 T, PySem.W.mg_of X G a3, k3, b3⟩
  have F_is_mode : FnOk l.prog w K mg base CX0 1 f4 _ ["thing"] (spIsMode K) := ok_is_mode F4 T M
  have E_M : EDf l.prog w K mg base 1 "Missing" E1 "mode" fsM := ⟨f5, _, ⟨PySem.W.mg_of X G g1G, O1, X1, a5, t5⟩, ok_missing F5 O1 n1a n1b, b5⟩
  have E_P : EDf l.prog w K mg base 1 "Present" E2 "mode" fsP := ⟨f6, _, ⟨PySem.W.mg_of X G g2G, O2, X2, a6, t6⟩, ok_present F6 O2 n2a n2b, b6⟩
  have E_O : EDf l.prog w K mg base 1 "Doomed" E3 "first" fsD := ⟨f7, _, ⟨PySem.W.mg_of X G g3G, O3, X3, a7, t7⟩, ok_doomed F7 O3 n3a n3b, b7⟩
  have C_T : CDf l.prog w K mg base 1 "Transaction" CT (spTrInit (⟨CD, CT, E1, E2, E3⟩ : Cs)) := ⟨f8, _, ⟨mkT, a8, i8, kpT⟩, ok_tr_init F8 B, b8, PySem.W.mg_of X G gT⟩
  have M_tdoom : MDf l.prog w K mg base CX0 1 CT "doom" ["self", "first"] [] (spTrDoom (⟨CD, CT, E1, E2, E3⟩ : Cs)) := ⟨f9, _, [], ok_tr_doom F9 B, ⟨a9, i9, k9⟩, b9, .nil⟩
  have C_D : CDf l.prog w K mg base 1 "Database" CD (spDbInit (⟨CD, CT, E1, E2, E3⟩ : Cs)) := ⟨f10, _, ⟨mkD, a10, i10, kpD⟩, ok_db_init F10 B, b10, PySem.W.mg_of X G gDb⟩
  have M_enter_free : MDf l.prog w K mg base (L2.CX l.prog w) 3 CD "_enter_free" ["self", "mode"] [] (spFree (⟨CD, CT, E1, E2, E3⟩ : Cs)) := ⟨f11, _, [], ok_enter_free F11 B M E_M kE1 C_T, ⟨a11, i11, k11⟩, b11, .nil⟩
  have M_enter_present : MDf l.prog w K mg base (L2.CX l.prog w) 3 CD "_enter_present" ["self", "mode", "present"] [] (spPres (⟨CD, CT, E1, E2, E3⟩ : Cs)) := ⟨f12, _, [], ok_enter_present F12 T B M E_P E_O kE2 kE3 C_T, ⟨a12, i12, k12⟩, b12, .nil⟩
  have M_enter : MDf l.prog w K mg base (L2.CX l.prog w) 4 CD "enter" ["self", "mode"] [] (spEnter (⟨CD, CT, E1, E2, E3⟩ : Cs)) := ⟨f13, _, [], ok_enter F13 B M F_is_mode bIM M_enter_free M_enter_present, ⟨a13, i13, k13⟩, b13, .nil⟩
  have P_reason : PDf l.prog w K mg base 1 CD "reason" (spGet (⟨CD, CT, E1, E2, E3⟩ : Cs) fun _ f _ => oV f) := ⟨p14, f14, _, ⟨a14, g14, t14, _, r14⟩, ok_reason F14 B, b14⟩
  have P_is_open : PDf l.prog w K mg base 1 CD "is_open" (spGet (⟨CD, CT, E1, E2, E3⟩ : Cs) fun n _ _ => .bl (decide (0 < n))) := ⟨p15, f15, _, ⟨a15, g15, t15, _, r15⟩, ok_is_open F15 B, b15⟩
  have P_is_doomed : PDf l.prog w K mg base 3 CD "is_doomed" (spGet (⟨CD, CT, E1, E2, E3⟩ : Cs) fun _ f _ => .bl (!decide (oV f = .non))) := ⟨p16, f16, _, ⟨a16, g16, t16, _, r16⟩, ok_is_doomed F16 B P_reason, b16⟩
  have P_levels : PDf l.prog w K mg base 1 CD "levels" (spGet (⟨CD, CT, E1, E2, E3⟩ : Cs) fun n _ _ => .int n) := ⟨p17, f17, _, ⟨a17, g17, t17, _, r17⟩, ok_levels F17 T B, b17⟩
  have P_depth : PDf l.prog w K mg base 1 CD "depth" (spGet (⟨CD, CT, E1, E2, E3⟩ : Cs) fun _ _ m => .int m) := ⟨p18, f18, _, ⟨a18, g18, t18, _, r18⟩, ok_depth F18 T B, b18⟩
  have M_keep : MDf l.prog w K mg base CX0 1 CD "_keep" ["self", "transaction"] [] (spKeep (⟨CD, CT, E1, E2, E3⟩ : Cs)) := ⟨f19, _, [], ok_keep F19 B, ⟨a19, i19, k19⟩, b19, .nil⟩
  have M_end_level : MDf l.prog w K mg base CX0 2 CD "_end_level" ["self", "transaction", "error", "commits"] [] (spEndLevel (⟨CD, CT, E1, E2, E3⟩ : Cs)) := ⟨f20, _, [], ok_end_level F20 B M_keep, ⟨a20, i20, k20⟩, b20, .nil⟩
  have M_end_block : MDf l.prog w K mg base CX0 3 CD "_end_block" ["self", "error", "commits"] [] (spEndBlock (⟨CD, CT, E1, E2, E3⟩ : Cs)) := ⟨f21, _, [], ok_end_block F21 B M_end_level, ⟨a21, i21, k21⟩, b21, .nil⟩
  have M_leave : MDf l.prog w K mg base CX0 4 CD "leave" ["self", "error", "commits"] [.non, .bl true] (spLeave (⟨CD, CT, E1, E2, E3⟩ : Cs)) := ⟨f22, _, dsL, ok_leave F22 T B P_reason M_end_block, ⟨a22, i22, k22⟩, b22, vL⟩
  have M_doom : MDf l.prog w K mg base CX0 2 CD "doom" ["self", "first"] [] (spDbDoom (⟨CD, CT, E1, E2, E3⟩ : Cs) K) := ⟨f23, _, dsD, ok_doom F23 B D_is_word M_tdoom, ⟨a23, i23, k23⟩, b23, vD⟩
  have D_law_entered : Df l.prog w K mg base 1 "_law_entered" ["stack", "mode"] spEntered := ⟨f24, _, ok_entered F24, PySem.W.mg_of X G a24, k24, b24⟩
  have D_law_enter : Df l.prog w K mg base 5 "_law_enter" ["db", "mode"] (spLawEnter (⟨CD, CT, E1, E2, E3⟩ : Cs)) := ⟨f25, _, ok_law_enter F25 B L M_enter, PySem.W.mg_of X G a25, k25, b25⟩
  have D_law_shows : DfG l.prog w K mg base 5 "_law_shows" ["db", "stack", "depth"] (spShows (⟨CD, CT, E1, E2, E3⟩ : Cs)) := ⟨f26, _, ok_shows F26 T B P_is_open P_is_doomed P_reason P_levels P_depth, PySem.W.mg_of X G a26, k26, b26⟩
  exact ok_law F27 T B D_law_pool D_law_draw D_law_word D_law_entered D_law_enter D_law_shows C_D M_doom M_leave
end IC
open PySem PySem.W PyProof.Rows
set_option maxRecDepth 100000 in
set_option maxHeartbeats 0 in
theorem PySem.Challenge.cw_innercommits_k04_entering_blocks_holds : PySem.Challenge.rw_innercommits_k04_entering_blocks.Holds := by
  w_on; o_law; k_head; (case hw => w_witness2)
  k_fill
  refine IC.walkG (l := PySem.Challenge.rw_innercommits_k04_entering_blocks) (k := 6) rfl rfl ⟨rfl, by decide, by decide⟩ (fun w h Y => PySem.W.kIn_of Y) ?F
  case F =>
    intro w mg fa h KX G hmg
    refine' IC.all_mk KX G hmg ?a0 ?l0 ?c0 ?k0 ?a1 ?l1 ?c1 ?k1 ?a2 ?l2 ?c2 ?k2 ?a3 ?l3 ?c3 ?k3 ?a4 ?l4 ?c4 ?k4 ?a5 ?l5 ?c5 ?k5 ?t5 ?a6 ?l6 ?c6 ?k6 ?t6 ?a7 ?l7 ?c7 ?k7 ?t7 ?a8 ?l8 ?c8 ?k8 ?i8 ?a9 ?l9 ?c9 ?k9 ?i9 ?a10 ?l10 ?c10 ?k10 ?i10 ?a11 ?l11 ?c11 ?k11 ?i11 ?a12 ?l12 ?c12 ?k12 ?i12 ?a13 ?l13 ?c13 ?k13 ?i13 ?a14 ?g14 ?t14 ?r14 ?l14 ?c14 ?k14 ?a15 ?g15 ?t15 ?r15 ?l15 ?c15 ?k15 ?a16 ?g16 ?t16 ?r16 ?l16 ?c16 ?k16 ?a17 ?g17 ?t17 ?r17 ?l17 ?c17 ?k17 ?a18 ?g18 ?t18 ?r18 ?l18 ?c18 ?k18 ?a19 ?l19 ?c19 ?k19 ?i19 ?a20 ?l20 ?c20 ?k20 ?i20 ?a21 ?l21 ?c21 ?k21 ?i21 ?a22 ?l22 ?c22 ?k22 ?i22 ?a23 ?l23 ?c23 ?k23 ?i23 ?a24 ?l24 ?c24 ?k24 ?a25 ?l25 ?c25 ?k25 ?a26 ?l26 ?c26 ?k26 ?a27 ?l27 ?c27 ?k27 ?z_int ?z_len ?z_abs ?z_range ?z_max ?z_min ?z_isi ?z_str ?z_all ?z_repr ?mo ?mrd ?mga ?mall ?mlt ?m0 ?m1 ?m2 ?m3 ?m4 ?m5 ?m6 ?m7 ?msm ?gDb ?gT ?g1G ?x1 ?s1a ?s1g ?s1h ?n1a ?n1b ?kE1 ?e1b ?e1t ?e1h ?e1c ?g2G ?x2 ?s2a ?s2g ?s2h ?n2a ?n2b ?kE2 ?e2b ?e2t ?e2h ?e2c ?g3G ?x3 ?s3a ?s3g ?s3h ?n3a ?n3b ?kE3 ?e3b ?e3t ?e3h ?e3c ?u11 ?u21 ?u22 ?u31 ?u32 ?u33 ?pgD ?hdD ?poD ?saD ?mkD ?kpD ?pgT ?hdT ?poT ?saT ?mkT ?kpT ?nD0 ?nD1 ?nD2 ?nD3 ?nD4 ?nD5 ?nT0 ?nT1 ?nT2 ?gC0 ?gC1 ?gC2 ?lTL ?hKL ?lTD
    (case mo => k_is)
    (case mrd => k_is)
    (case mga => k_is)
    (case mall => k_is)
    (case mlt => k_is)
    (case m0 => k_is)
    (case m1 => k_is)
    (case m2 => k_is)
    (case m3 => k_is)
    (case m4 => k_is)
    (case m5 => k_is)
    (case m6 => k_is)
    (case m7 => k_is)
    (case msm => k_is)
    (case gDb => k_is)
    (case gT => k_is)
    (case g1G => k_is)
    (case x1 => k_is)
    (case s1a => k_is)
    (case s1g => k_is)
    (case s1h => k_is)
    (case n1a => k_is)
    (case n1b => k_is)
    (case kE1 => k_is)
    (case e1b => k_is)
    (case e1t => k_is)
    (case e1h => k_is)
    (case e1c => k_is)
    (case g2G => k_is)
    (case x2 => k_is)
    (case s2a => k_is)
    (case s2g => k_is)
    (case s2h => k_is)
    (case n2a => k_is)
    (case n2b => k_is)
    (case kE2 => k_is)
    (case e2b => k_is)
    (case e2t => k_is)
    (case e2h => k_is)
    (case e2c => k_is)
    (case g3G => k_is)
    (case x3 => k_is)
    (case s3a => k_is)
    (case s3g => k_is)
    (case s3h => k_is)
    (case n3a => k_is)
    (case n3b => k_is)
    (case kE3 => k_is)
    (case e3b => k_is)
    (case e3t => k_is)
    (case e3h => k_is)
    (case e3c => k_is)
    (case u11 => k_is)
    (case u21 => k_is)
    (case u22 => k_is)
    (case u31 => k_is)
    (case u32 => k_is)
    (case u33 => k_is)
    (case pgD => k_is)
    (case hdD => k_is)
    (case poD => k_is)
    (case saD => k_is)
    (case mkD => k_is)
    (case kpD => k_is)
    (case pgT => k_is)
    (case hdT => k_is)
    (case poT => k_is)
    (case saT => k_is)
    (case mkT => k_is)
    (case kpT => k_is)
    (case nD0 => k_is)
    (case nD1 => k_is)
    (case nD2 => k_is)
    (case nD3 => k_is)
    (case nD4 => k_is)
    (case nD5 => k_is)
    (case nT0 => k_is)
    (case nT1 => k_is)
    (case nT2 => k_is)
    (case gC0 => k_is)
    (case gC1 => k_is)
    (case gC2 => k_is)
    (case a0 => k_is)
    (case l0 => k_is)
    (case c0 => k_is)
    (case k0 => k_is)
    (case a1 => k_is)
    (case l1 => k_is)
    (case c1 => k_is)
    (case k1 => k_is)
    (case a2 => k_is)
    (case l2 => k_is)
    (case c2 => k_is)
    (case k2 => k_is)
    (case a3 => k_is)
    (case l3 => k_is)
    (case c3 => k_is)
    (case k3 => k_is)
    (case a4 => k_is)
    (case l4 => k_is)
    (case c4 => k_is)
    (case k4 => k_is)
    (case a5 => k_is)
    (case l5 => k_is)
    (case c5 => k_is)
    (case k5 => k_is)
    (case t5 => k_is)
    (case a6 => k_is)
    (case l6 => k_is)
    (case c6 => k_is)
    (case k6 => k_is)
    (case t6 => k_is)
    (case a7 => k_is)
    (case l7 => k_is)
    (case c7 => k_is)
    (case k7 => k_is)
    (case t7 => k_is)
    (case a8 => k_is)
    (case l8 => k_is)
    (case c8 => k_is)
    (case k8 => k_is)
    (case i8 => k_is)
    (case a9 => k_is)
    (case l9 => k_is)
    (case c9 => k_is)
    (case k9 => k_is)
    (case i9 => k_is)
    (case a10 => k_is)
    (case l10 => k_is)
    (case c10 => k_is)
    (case k10 => k_is)
    (case i10 => k_is)
    (case a11 => k_is)
    (case l11 => k_is)
    (case c11 => k_is)
    (case k11 => k_is)
    (case i11 => k_is)
    (case a12 => k_is)
    (case l12 => k_is)
    (case c12 => k_is)
    (case k12 => k_is)
    (case i12 => k_is)
    (case a13 => k_is)
    (case l13 => k_is)
    (case c13 => k_is)
    (case k13 => k_is)
    (case i13 => k_is)
    (case a14 => k_is)
    (case g14 => k_is)
    (case t14 => k_is)
    (case r14 => k_is)
    (case l14 => k_is)
    (case c14 => k_is)
    (case k14 => k_is)
    (case a15 => k_is)
    (case g15 => k_is)
    (case t15 => k_is)
    (case r15 => k_is)
    (case l15 => k_is)
    (case c15 => k_is)
    (case k15 => k_is)
    (case a16 => k_is)
    (case g16 => k_is)
    (case t16 => k_is)
    (case r16 => k_is)
    (case l16 => k_is)
    (case c16 => k_is)
    (case k16 => k_is)
    (case a17 => k_is)
    (case g17 => k_is)
    (case t17 => k_is)
    (case r17 => k_is)
    (case l17 => k_is)
    (case c17 => k_is)
    (case k17 => k_is)
    (case a18 => k_is)
    (case g18 => k_is)
    (case t18 => k_is)
    (case r18 => k_is)
    (case l18 => k_is)
    (case c18 => k_is)
    (case k18 => k_is)
    (case a19 => k_is)
    (case l19 => k_is)
    (case c19 => k_is)
    (case k19 => k_is)
    (case i19 => k_is)
    (case a20 => k_is)
    (case l20 => k_is)
    (case c20 => k_is)
    (case k20 => k_is)
    (case i20 => k_is)
    (case a21 => k_is)
    (case l21 => k_is)
    (case c21 => k_is)
    (case k21 => k_is)
    (case i21 => k_is)
    (case a22 => k_is)
    (case l22 => k_is)
    (case c22 => k_is)
    (case k22 => k_is)
    (case i22 => k_is)
    (case a23 => k_is)
    (case l23 => k_is)
    (case c23 => k_is)
    (case k23 => k_is)
    (case i23 => k_is)
    (case a24 => k_is)
    (case l24 => k_is)
    (case c24 => k_is)
    (case k24 => k_is)
    (case a25 => k_is)
    (case l25 => k_is)
    (case c25 => k_is)
    (case k25 => k_is)
    (case a26 => k_is)
    (case l26 => k_is)
    (case c26 => k_is)
    (case k26 => k_is)
    (case a27 => k_is)
    (case l27 => k_is)
    (case c27 => k_is)
    (case k27 => k_is)
    (case z_int => k_is)
    (case z_len => k_is)
    (case z_abs => k_is)
    (case z_range => k_is)
    (case z_max => k_is)
    (case z_min => k_is)
    (case z_isi => k_is)
    (case z_str => k_is)
    (case z_all => k_is)
    (case z_repr => k_is)
    (case lTL => k_is)
    (case hKL => k_is)
    (case lTD => k_is)
#print axioms PySem.Challenge.cw_innercommits_k04_entering_blocks_holds
