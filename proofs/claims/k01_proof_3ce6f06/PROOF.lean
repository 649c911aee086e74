import PyProof.Rows.All
import Wide.All
import OpenK.AllK
import Wide.FinOn
import HandS.ForMost
import HandS.Walk
import HandS.Zip
import KE.GoesEnum
import HandS.Star
import KE.KDictZip
import HandS.Wide
import HandS.IsInst
import HandS.Codes
import HandS.TupAny
import HandS.TupMul
import HandS.Conv
import HandS.Flow
import PySem.Challenge.RW_loopwords_k01_sums
set_option Elab.async false
set_option linter.all false
set_option maxRecDepth 100000
set_option maxHeartbeats 4000000
/-! zip of a list or a tuple with a list or a tuple; enumerate of a list or a tuple. -/
namespace LW
open PySem PySem.Spec PyProof.Rows L2

/-- true: a tuple; false: a list -/
def Sd (K : PySem.W.Frag) : Bool → Hp → Addr → List V → Prop
  | true, H, a, xs => SqT K H a xs
  | false, H, a, xs => SqL K H a xs
def SdIt : Bool → Heap → Addr → Addr → Nat → Prop
  | true, h, it, a, i => h.IsTupleIter it a i
  | false, h, it, a, i => h.IsListIter it a i
def SdAt : Bool → Heap → Addr → Array Value → Prop
  | true, h, a, its => h.IsTuple a its
  | false, h, a, its => h.IsList a its
def sdObj : Bool → Addr → Obj
  | true, a => { cls := .type "tuple_iterator", data := .fields #[.ref a, .int 0 0] }
  | false, a => { cls := .type "list_iterator", data := .fields #[.ref a, .int 0 0] }

theorem sd_begins (b : Bool) (a : Addr) (its : Array Value) : Begins (.ref a) (sdObj b a) (fun h => SdAt b h a its) := by
  cases b with
  | true => exact begins_tuple a its
  | false => exact begins_list a its
theorem sd_draws {prog : Program} {w : World} {A : Around} (b : Bool) (hh : A.handled = none) (it a : Addr) (hne : a ≠ it) (its : Array Value) :
    Draws prog w A it [it, a] its.size (fun i v => its[i]? = some v) (fun i h => SdIt b h it a i ∧ SdAt b h a its) := by
  cases b with
  | true => exact Draws.tuple hh it a hne its
  | false => exact Draws.list hh it a hne its
theorem sd_it0 {b : Bool} {h : Heap} {it a : Addr} (e : h.get? it = some (sdObj b a)) : SdIt b h it a 0 := by
  cases b with
  | true => exact ⟨_, e, rfl, rfl⟩
  | false => exact ⟨_, e, rfl, rfl⟩
theorem sd_live {b : Bool} {h : Heap} {it a : Addr} {i : Nat} (s : SdIt b h it a i) : ∃ o, h.get? it = some o ∧ ∀ v, o.data ≠ .cell v := by
  cases b with
  | true =>
    obtain ⟨o, e, _, d⟩ := s
    exact ⟨o, e, fun v z => by rw [d] at z; cases z⟩
  | false =>
    obtain ⟨o, e, _, d⟩ := s
    exact ⟨o, e, fun v z => by rw [d] at z; cases z⟩
theorem sd_over {b : Bool} {h h' : Heap} {it a : Addr} {i : Nat} (s : SdIt b h it a i) (k : ∀ o, h.get? it = some o → h'.get? it = some o) : SdIt b h' it a i := by
  cases b with
  | true => exact Heap.IsTupleIter.at s k
  | false => exact Heap.IsListIter.at s k
theorem sd_data {X : Cx} {pins : List (Addr × Obj)} {σ : L2.St} {H : Hp} {s : Shared} {b : Bool} {a : Addr} {xs : List V} (I : Inv X pins σ H s) (q : Sd X.K b H a xs) :
    ∃ its : List Value, Vals xs its ∧ SdAt b s.heap a its.toArray ∧ a < s.heap.objs.size := by
  cases b with
  | true =>
    obtain ⟨its, rv, p, _⟩ := I.tuple q
    obtain ⟨o, ho, _⟩ := id p
    exact ⟨its, rv, p, Heap.lt_size ho⟩
  | false =>
    obtain ⟨its, rv, p, _⟩ := I.list q
    exact ⟨its, rv, p.isList, p.lt⟩
theorem sd_inj {X : Cx} {pins : List (Addr × Obj)} {σ : L2.St} {H : Hp} {s : Shared} {b : Bool} {a : Addr} {xs ys : List V} (I : Inv X pins σ H s) (q : Sd X.K b H a xs) (q' : Sd X.K b H a ys) : xs = ys := by
  cases b with
  | true => exact I.tuple_inj q q'
  | false => exact I.list_inj q q'

/-! ### zip -/
def ItZ (K : PySem.W.Frag) (b1 b2 : Bool) (a c : Addr) : It :=
  ⟨fun i H => ∃ (xs ys : List V) (x y : V), Sd K b1 H a xs ∧ Sd K b2 H c ys ∧ xs[i]? = some x ∧ ys[i]? = some y,
    fun i H v H' => ∃ T x y, v = .ref T ∧ H T = none ∧ H' = upd H T (.tup [x, y]) ∧ (∀ xs, Sd K b1 H a xs → xs[i]? = some x) ∧ ∀ ys, Sd K b2 H c ys → ys[i]? = some y,
    fun i H => ∃ xs ys : List V, Sd K b1 H a xs ∧ Sd K b2 H c ys ∧ i ≤ xs.length ∧ i ≤ ys.length ∧ (xs.length = i ∨ ys.length = i)⟩
/-- the zip's five cells lie apart from one another and from what is zipped -/
structure Apart5 (z TI TO i1 i2 a c : Addr) : Prop where
  sep : ZipSep2 z TI TO i1 i2 [i1, a] [i2, c]
  a1 : a ≠ i1
  c2 : c ≠ i2
theorem apart_new {n a c : Nat} (ha : a < n) (hc : c < n) : Apart5 (n + 4) (n + 2) (n + 3) n (n + 1) a c :=
  ⟨zip_sep2 (N := n) (fp1 := [a]) (fp2 := [c]) (fun b hb => by rw [List.mem_singleton.mp hb]; exact ha) (fun b hb => by rw [List.mem_singleton.mp hb]; exact hc),
    fun e => by have e' : (a : Nat) = n := e; omega, fun e => by have e' : (c : Nat) = n + 1 := e; omega⟩
def ZSt (b1 b2 : Bool) (z TI TO i1 i2 a c : Addr) (i : Nat) (h : Heap) : Prop :=
  IsZip h z TI TO .none ∧ IsTupOf2 h TI (.ref i1) (.ref i2) ∧ (∃ x y, IsTupOf2 h TO x y) ∧ SdIt b1 h i1 a i ∧ SdIt b2 h i2 c i
theorem five {z TI TO i1 i2 c : Addr} (h : c ∈ [z, TI, TO, i1, i2]) : c = z ∨ c = TI ∨ c = TO ∨ c = i1 ∨ c = i2 := by simpa using h
theorem turnZ {P : Program} {w : World} {K : PySem.W.Frag} {elts : List Expr} {kk : Nat} {tpos : Pos} {b1 b2 : Bool} {a c z TI TO i1 i2 : Addr} (D : Apart5 z TI TO i1 i2 a c) :
    Turn P w K (.Tuple elts kk tpos) (ItZ K b1 b2 a c) [z, TI, TO, i1, i2] z (ZSt b1 b2 z TI TO i1 i2 a c) where
  mem := List.mem_cons_self ..
  obj := by
    intro i h st d hd
    obtain ⟨qz, qI, ⟨x, y, qO⟩, q1, q2⟩ := st
    rcases five hd with rfl | rfl | rfl | rfl | rfl
    · exact ⟨_, qz, fun v q => nomatch q⟩
    · exact ⟨_, qI, fun v q => nomatch q⟩
    · exact ⟨_, qO, fun v q => nomatch q⟩
    · exact sd_live q1
    · exact sd_live q2
  keep := by
    intro i h h' st k
    obtain ⟨qz, qI, ⟨x, y, qO⟩, q1, q2⟩ := st
    exact ⟨k z (by simp) _ qz, k TI (by simp) _ qI, ⟨x, y, k TO (by simp) _ qO⟩, sd_over q1 fun o e => k i1 (by simp) o e, sd_over q2 fun o e => k i2 (by simp) o e⟩
  item := by
    intro X hP hw hK hc i pins s σ H E I hf st hg
    subst hP hw hK
    obtain ⟨qz, qI, ⟨x0, y0, qO⟩, q1, q2⟩ := st
    obtain ⟨xs, ys, x, y, hqx, hqy, hx, hy⟩ := hg
    obtain ⟨us, rv, d1, la⟩ := sd_data I hqx
    obtain ⟨ws, rv2, d2, lc⟩ := sd_data I hqy
    obtain ⟨u, hu, ru⟩ := rv.get hx
    obtain ⟨u2, hu2, ru2⟩ := rv2.get hy
    have h1 : i < us.toArray.size := by
      obtain ⟨q, _⟩ := List.getElem?_eq_some_iff.mp hu
      simpa using q
    have h2 : i < ws.toArray.size := by
      obtain ⟨q, _⟩ := List.getElem?_eq_some_iff.mp hu2
      simpa using q
    have zl : z < s.heap.objs.size := Heap.lt_size qz
    refine wpAny_pyNext_zipD2_item D.sep (sd_draws (prog := X.prog) (w := X.w) (A := X.A.in1) b1 (I.ok.hd hc) i1 a D.a1 us.toArray) (sd_draws (prog := X.prog) (w := X.w) (A := X.A.in1) b2 (I.ok.hd hc) i2 c D.c2 ws.toArray) qz qI qO ⟨q1, d1⟩ ⟨q2, d2⟩ h1 h2 fun v1 v2 h' tk e1 e2 z' O' n1 n2 T' hsz hk => ?_
    have ev1 : v1 = u := Option.some.inj (e1.symm.trans (by simpa using hu))
    have ev2 : v2 = u2 := Option.some.inj (e2.symm.trans (by simpa using hu2))
    subst ev1 ev2
    refine ⟨_, rfl, wpAny_letOwnedTupleGo_zip (s := { s with heap := h', toks := tk }) z' fun h'' z'' sb => ?_⟩
    have hT2 : h''.get? s.heap.objs.size = some { cls := .type "tuple", data := .seq #[v1, v2] } := (sb.2 _ (Nat.ne_of_gt zl)).trans T'
    have new : ObjOk X.prog X.w (upd H s.heap.objs.size (.tup [x, y])) h'' s.heap.objs.size (.tup [x, y]) :=
      ⟨by show 2 ≤ sizeLine; decide, [v1, v2], .cons ru (.cons ru2 .nil), ⟨_, hT2, rfl, _, rfl⟩⟩
    have I1 : Inv X pins σ (upd H s.heap.objs.size (.tup [x, y])) { s with heap := h'', toks := tk } :=
      I.turnedNew (t' := tk) (ch := [z, TI, TO, i1, i2]) (fun d o nd q => by
        have nn : d ≠ z ∧ d ≠ TI ∧ d ≠ TO ∧ d ≠ i1 ∧ d ≠ i2 := by simpa using nd
        exact (sb.2 d nn.1).trans (hk d o nn.1 nn.2.2.1 nn.2.2.2.1 nn.2.2.2.2 q)) hf (Nat.le_refl _) new
    refine ⟨.ref s.heap.objs.size, _, I1, rfl, ⟨_, x, y, rfl, I.hok.fresh (Nat.le_refl _), rfl, fun l hl => by rw [sd_inj I hl hqx]; exact hx, fun l hl => by rw [sd_inj I hl hqy]; exact hy⟩,
      ⟨z'', (sb.2 _ D.sep.TIz).trans (hk _ _ D.sep.TIz D.sep.TITO D.sep.TIi1 D.sep.TIi2 qI), ⟨v1, v2, (sb.2 _ D.sep.TOz).trans O'⟩,
        sd_over n1.1 fun o q => (sb.2 _ fun e => D.sep.zf1 (by rw [← e]; exact D.sep.mem1)).trans q, sd_over n2.1 fun o q => (sb.2 _ fun e => D.sep.zf2 (by rw [← e]; exact D.sep.mem2)).trans q⟩, fun d hd => ?_⟩
    have dl : d < s.heap.objs.size := by
      rcases five hd with rfl | rfl | rfl | rfl | rfl
      · exact zl
      · exact Heap.lt_size qI
      · exact Heap.lt_size qO
      · obtain ⟨_, e, _⟩ := sd_live q1
        exact Heap.lt_size e
      · obtain ⟨_, e, _⟩ := sd_live q2
        exact Heap.lt_size e
    rw [upd_ne (Nat.ne_of_lt dl)]
    exact (hf d hd).1
  done := by
    intro X hP hw hK hc i pins s σ H E I hf st hg
    subst hP hw hK
    obtain ⟨qz, qI, ⟨x0, y0, qO⟩, q1, q2⟩ := st
    obtain ⟨xs, ys, hqx, hqy, l1, l2, hend⟩ := hg
    obtain ⟨us, rv, d1, la⟩ := sd_data I hqx
    obtain ⟨ws, rv2, d2, lc⟩ := sd_data I hqy
    have m1 := rv.length
    have m2 := rv2.length
    refine wpAny_pyNext_zipD2_end D.sep (sd_draws (prog := X.prog) (w := X.w) (A := X.A.in1) b1 (I.ok.hd hc) i1 a D.a1 us.toArray) (sd_draws (prog := X.prog) (w := X.w) (A := X.A.in1) b2 (I.ok.hd hc) i2 c D.c2 ws.toArray) qz qI qO ⟨q1, d1⟩ ⟨q2, d2⟩ (by simp; omega) (by simp; omega) (by simp; omega) fun h' tk hk => ⟨rfl, ?_⟩
    exact I.turnedL (t' := tk) (ch := [z, TI, TO, i1, i2]) (fun d o nd q => by
      have nn : d ≠ z ∧ d ≠ TI ∧ d ≠ TO ∧ d ≠ i1 ∧ d ≠ i2 := by simpa using nd
      exact hk d o nn.1 nn.2.2.1 nn.2.2.2.1 nn.2.2.2.2 q) hf
  self := fun A i s Q E st h => wpAny_pyIter_zip st.1 h
def iZ (K : PySem.W.Frag) (ta : TA) (b1 b2 : Bool) : TI := fun σ H R => ta σ H fun vs H1 => ∃ a c xs ys, vs = [.ref a, .ref c] ∧ Sd K b1 H1 a xs ∧ Sd K b2 H1 c ys ∧ R (ItZ K b1 b2 a c) H1
theorem piZ {X : Cx} {e e2 : Expr} {ta : TA} {p pos tpos : Pos} {elts : List Expr} {kk : Nat} (b1 b2 : Bool) (hg : Gl X "zip") (hm : X.mg "zip" = none) (ha : PA X [e, e2] ta)
    (hs : starEach [e, e2] X.env = (false, eval e X.env) :: starEach [e2] X.env := by rfl) (hpl : (backTo pos (starEach [e2] X.env)).any (·.1) = false := by rfl) :
    PI X (.Tuple elts kk tpos) (.Call (.Name "zip" p) [e, e2] [] pos) (iZ X.K ta b1 b2) := by
  constructor
  intro pins s σ H R I h
  refine Call_ (ld_blt I hg hm PyProof.Rows.boot_zip (PyProof.Rows.callWith_type1 (thn (ha.run pos pins s σ H _ I h) fun us s1 hyp => ?_) hs hpl))
  obtain ⟨vs, H1, I1, r1, a, c, xs, ys, rfl, hqx, hqy, q⟩ := hyp
  match us, r1 with
  | [_, _], .cons rfl (.cons rfl .nil) =>
    obtain ⟨us, rv, d1, la⟩ := sd_data I1 hqx
    obtain ⟨ws, rv2, d2, lc⟩ := sd_data I1 hqy
    refine zip_begins2 (sd_begins b1 a us.toArray) (sd_begins b2 c ws.toArray) d1 d2 fun h' hz hTI hTO h1 h2 hsz hk => wpAny_pyIter_zip hz ?_
    refine ⟨s1.heap.objs.size + 4, [s1.heap.objs.size + 4, s1.heap.objs.size + 2, s1.heap.objs.size + 3, s1.heap.objs.size, s1.heap.objs.size + 1], _, _, H1, rfl, I1.kept (t' := s1.toks) hk,
      turnZ (b1 := b1) (b2 := b2) (apart_new la lc), ⟨hz, hTI, ⟨_, _, hTO⟩, sd_it0 h1, sd_it0 h2⟩, fun d hd => ?_, q⟩
    have hle : s1.heap.objs.size ≤ d := by
      rcases five hd with z | z | z | z | z <;> rw [z]
      · exact Nat.le_add_right _ _
      · exact Nat.le_add_right _ _
      · exact Nat.le_add_right _ _
      · exact Nat.le_refl _
      · exact Nat.le_add_right _ _
    exact I1.fpOk hle (I1.hok.fresh hle)
theorem walkZ {K : PySem.W.Frag} {b1 b2 : Bool} {a c : Addr} {xs ys : List V} {n : Nat} (hn : n = min xs.length ys.length) :
    Walk (ItZ K b1 b2 a c) n (fun H => Sd K b1 H a xs ∧ Sd K b2 H c ys) (YPair (fun i => xs[i]?) (fun i => ys[i]?)) := by
  subst hn
  refine ⟨fun i _ hi q => ?_, fun _ q => ⟨xs, ys, q.1, q.2, by omega, by omega, by omega⟩, fun i H v H' _ q y => ?_⟩
  · have h1 : i < xs.length := by omega
    have h2 : i < ys.length := by omega
    exact ⟨xs, ys, xs[i], ys[i], q.1, q.2, by simp [h1], by simp [h2]⟩
  · obtain ⟨T, x, z, e1, e2, e3, e4, e5⟩ := y
    exact ⟨T, x, z, e1, e2, e3, e4 xs q.1, e5 ys q.2⟩

/-! ### enumerate -/
def ItE (K : PySem.W.Frag) (b : Bool) (a : Addr) : It :=
  ⟨fun i H => ∃ (xs : List V) (x : V), Sd K b H a xs ∧ xs[i]? = some x,
    fun i H v H' => ∃ T x, v = .ref T ∧ H T = none ∧ H' = upd H T (.tup [.int (i : Nat), x]) ∧ ∀ xs, Sd K b H a xs → xs[i]? = some x,
    fun i H => ∃ xs : List V, Sd K b H a xs ∧ xs.length = i⟩
def ESt (b : Bool) (e it a : Addr) (i : Nat) (h : Heap) : Prop := (∃ old, IsEnum h e it (i : Int) old) ∧ SdIt b h it a i
theorem turnE {P : Program} {w : World} {K : PySem.W.Frag} {elts : List Expr} {kk : Nat} {tpos : Pos} {b : Bool} {a e it : Addr} (ne : e ≠ it) (nea : e ≠ a) (nia : a ≠ it) :
    Turn P w K (.Tuple elts kk tpos) (ItE K b a) [e, it] e (ESt b e it a) where
  mem := List.mem_cons_self ..
  obj := by
    intro i h st d hd
    obtain ⟨⟨old, qe⟩, q1⟩ := st
    have hd' : d = e ∨ d = it := by simpa using hd
    rcases hd' with rfl | rfl
    · exact ⟨_, qe, fun v q => nomatch q⟩
    · exact sd_live q1
  keep := by
    intro i h h' st k
    obtain ⟨⟨old, qe⟩, q1⟩ := st
    exact ⟨⟨old, k e (by simp) _ qe⟩, sd_over q1 fun o z => k it (by simp) o z⟩
  item := by
    intro X hP hw hK hc i pins s σ H E I hf st hg
    subst hP hw hK
    obtain ⟨⟨old, qe⟩, q1⟩ := st
    obtain ⟨xs, x, hqx, hx⟩ := hg
    obtain ⟨us, rv, d1, la⟩ := sd_data I hqx
    obtain ⟨u, hu, ru⟩ := rv.get hx
    have h1 : i < us.toArray.size := by
      obtain ⟨q, _⟩ := List.getElem?_eq_some_iff.mp hu
      simpa using q
    have el : e < s.heap.objs.size := Heap.lt_size qe
    refine wpAny_pyNext_enum_itemC (sd_draws (prog := X.prog) (w := X.w) (A := X.A.in1) b (I.ok.hd hc) it a nia us.toArray) qe ⟨q1, d1⟩ h1 ne (by simp [ne, nea]) fun v h' tk e1 o' n1 T' hsz hk => ?_
    have ev : v = u := Option.some.inj (e1.symm.trans (by simpa using hu))
    subst ev
    refine ⟨_, rfl, wpAny_letOwnedTupleGo_enum (s := { s with heap := h', toks := tk + 1 }) o' fun h'' e'' sb => ?_⟩
    have hT2 : h''.get? s.heap.objs.size = some { cls := .type "tuple", data := .seq #[.int i tk, v] } := (sb.2 _ (Nat.ne_of_gt el)).trans T'
    have new : ObjOk X.prog X.w (upd H s.heap.objs.size (.tup [.int (i : Nat), x])) h'' s.heap.objs.size (.tup [.int (i : Nat), x]) :=
      ⟨by show 2 ≤ sizeLine; decide, [.int i tk, v], .cons ⟨_, rfl⟩ (.cons ru .nil), ⟨_, hT2, rfl, _, rfl⟩⟩
    have I1 : Inv X pins σ (upd H s.heap.objs.size (.tup [.int (i : Nat), x])) { s with heap := h'', toks := tk + 1 } :=
      I.turnedNew (t' := tk + 1) (ch := [e, it]) (fun d o nd q => by
        have nn : d ≠ e ∧ d ≠ it := by simpa using nd
        exact (sb.2 d nn.1).trans (hk d o nn.1 nn.2 q)) hf (Nat.le_refl _) new
    refine ⟨.ref s.heap.objs.size, _, I1, rfl, ⟨_, x, rfl, I.hok.fresh (Nat.le_refl _), rfl, fun l hl => by rw [sd_inj I hl hqx]; exact hx⟩,
      ⟨⟨v, ?_⟩, sd_over n1.1 fun o q => (sb.2 _ (Ne.symm ne)).trans q⟩, fun d hd => ?_⟩
    · have e1 : ((i + 1 : Nat) : Int) = (i : Int) + 1 := by omega
      rw [e1]
      exact e''
    · have dl : d < s.heap.objs.size := by
        have hd' : d = e ∨ d = it := by simpa using hd
        rcases hd' with rfl | rfl
        · exact el
        · obtain ⟨_, z, _⟩ := sd_live q1
          exact Heap.lt_size z
      rw [upd_ne (Nat.ne_of_lt dl)]
      exact (hf d hd).1
  done := by
    intro X hP hw hK hc i pins s σ H E I hf st hg
    subst hP hw hK
    obtain ⟨⟨old, qe⟩, q1⟩ := st
    obtain ⟨xs, hqx, l1⟩ := hg
    obtain ⟨us, rv, d1, la⟩ := sd_data I hqx
    have m1 := rv.length
    have ei : i = us.toArray.size := by simp; omega
    subst ei
    refine wpAny_pyNext_enum_endD (sd_draws (prog := X.prog) (w := X.w) (A := X.A.in1) b (I.ok.hd hc) it a nia us.toArray) qe ⟨q1, d1⟩ fun h' hk => ⟨rfl, ?_⟩
    exact I.turnedL (t' := s.toks) (ch := [e, it]) (fun d o nd q => by
      have nn : d ≠ e ∧ d ≠ it := by simpa using nd
      exact hk d o nn.2 q) hf
  self := fun A i s Q E st h => let ⟨⟨_, he⟩, _⟩ := st; wpAny_pyIter_enum he h
theorem meets_enum1 {v : Value} {o : Obj} {G : Heap → Prop} (B : Begins v o G) (hv : ∀ x t, v ≠ .str x t) :
    Meets (Builtin.«enumerate.__new__» ⟨[.type "enumerate", v], []⟩) (fun _ R s => G s.heap ∧
      R (.ok (.ret (.ref (s.heap.push o).objs.size))) { s with heap := (s.heap.push o).push { cls := .type "enumerate", data := .fields #[.none, .bool false, .ref s.heap.objs.size, rawInt 0, .none, .none] } }) :=
  .of_wp fun prog w A R s h => by
    obtain ⟨hp, g, d, tk, os⟩ := s
    obtain ⟨h1, h⟩ := h
    have subE := sub_enumerate
    have step : ∀ {A' : Around} {E : Value → Shared → Prop} {Q : Value → Shared → Prop}, Q (.ref hp.objs.size) ⟨hp.push o, g, d, tk, os⟩ → wpAny (model prog w) A' (pyIter v) Q E ⟨hp, g, d, tk, os⟩ :=
      fun q => B.iter prog w _ _ ⟨hp, g, d, tk, os⟩ _ h1 q
    wp_walk using step
    refine wpAny_stack_any fun st => wpAny_pure ?_
    split
    · rename_i c _ _ _ _ _
      cases (c == Value.type "enumerate") <;> (wp_walk using step; exact ⟨_, rfl, h⟩)
    · wp_walk using step
      exact ⟨_, rfl, h⟩
theorem enum_starts {prog : Program} {w : World} {A : Around} {E : Value → Shared → Prop} {s : Shared} {v : Value} {o : Obj} {G : Heap → Prop} {Q : Value → Shared → Prop} (B : Begins v o G) (hv : ∀ x t, v ≠ .str x t) (h1 : G s.heap)
    (h : ∀ h', IsEnum h' (s.heap.objs.size + 1) s.heap.objs.size 0 .none → h'.get? s.heap.objs.size = some o → (∀ b u, s.heap.get? b = some u → h'.get? b = some u) → Q (.ref (s.heap.objs.size + 1)) { s with heap := h' }) :
    wpAny (model prog w) A (call (.type "enumerate") [v]) Q E s := by
  refine callType_new F.called_enumerate (by decide) (F.typeCall_enumerate_1 _) (F.newCall_enumerate_1 _) (fun obj => F.args_object_init_2 obj _) F.entry_enumerate_new
    (meets_enum1 B hv) ⟨h1, ?_⟩
  have hz : (s.heap.push o).objs.size = s.heap.objs.size + 1 := Heap.size_push ..
  show _ ∧ _
  rw [hz]
  have he := Heap.get?_push_size (s.heap.push o) (o := { cls := .type "enumerate", data := .fields #[.none, .bool false, .ref s.heap.objs.size, rawInt 0, .none, .none] }) rfl
  rw [hz] at he
  exact ⟨⟨_, he, rfl⟩, h _ he (Heap.get?_push_of_some _ (Heap.get?_push_size _ B.free)) fun b u x => Heap.get?_push_of_some _ (Heap.get?_push_of_some _ x)⟩
def iE (K : PySem.W.Frag) (ta : TA) (b : Bool) : TI := fun σ H R => ta σ H fun vs H1 => ∃ a xs, vs = [.ref a] ∧ Sd K b H1 a xs ∧ R (ItE K b a) H1
theorem piE {X : Cx} {e : Expr} {ta : TA} {p pos tpos : Pos} {elts : List Expr} {kk : Nat} (b : Bool) (hg : Gl X "enumerate") (hm : X.mg "enumerate" = none) (ha : PA X [e] ta) (hs : starEach [e] X.env = [(false, eval e X.env)] := by rfl) :
    PI X (.Tuple elts kk tpos) (.Call (.Name "enumerate" p) [e] [] pos) (iE X.K ta b) := by
  constructor
  intro pins s σ H R I h
  refine Call_ (ld_blt I hg hm boot_enumerate (PyProof.Rows.callWith_type1 (thn (ha.run pos pins s σ H _ I h) fun us s1 hyp => ?_) hs rfl))
  obtain ⟨vs, H1, I1, r1, a, xs, rfl, hqx, q⟩ := hyp
  match us, r1 with
  | [_], .cons rfl .nil =>
    obtain ⟨us, rv, d1, la⟩ := sd_data I1 hqx
    refine enum_starts (sd_begins b a us.toArray) (fun _ _ z => by cases z) d1 fun h' he hi hk => wpAny_pyIter_enum he ?_
    refine ⟨s1.heap.objs.size + 1, [s1.heap.objs.size + 1, s1.heap.objs.size], _, _, H1, rfl, I1.kept (t' := s1.toks) hk,
      turnE (b := b) (a := a) (Nat.succ_ne_self _) (Nat.ne_of_gt (Nat.lt_succ_of_lt la)) (Nat.ne_of_lt la), ⟨⟨.none, he⟩, sd_it0 hi⟩, fun d hd => ?_, q⟩
    have hd' : d = s1.heap.objs.size + 1 ∨ d = s1.heap.objs.size := by simpa using hd
    have hle : s1.heap.objs.size ≤ d := by
      rcases hd' with z | z <;> rw [z]
      · exact Nat.le_add_right _ _
      · exact Nat.le_refl _
    exact I1.fpOk hle (I1.hok.fresh hle)
theorem walkE {K : PySem.W.Frag} {b : Bool} {a : Addr} {xs : List V} :
    Walk (ItE K b a) xs.length (fun H => Sd K b H a xs) (YPair (fun i => some (.int (i : Nat))) (fun i => xs[i]?)) := by
  refine ⟨fun i _ hi q => ⟨xs, xs[i], q, by simp [hi]⟩, fun _ q => ⟨xs, q, rfl⟩, fun i H v H' _ q y => ?_⟩
  obtain ⟨T, x, e1, e2, e3, e4⟩ := y
  exact ⟨T, .int (i : Nat), x, e1, e2, e3, rfl, e4 xs q⟩
end LW

/-! zip(*l) of a list of one to three tuples, walked with a name as the target. -/
namespace LW
open PySem PySem.Spec PyProof.Rows L2

abbrev zCells (c0 : Value) (f : Bool) (TI TO : Addr) : Obj := { cls := .type "zip", dict := none, data := .fields #[c0, .bool f, .bool false, .ref TI, .ref TO], slots := #[] }
abbrev tCells (us : List Value) : Obj := { cls := .type "tuple", data := .seq us.toArray }
/-- what the tuple's field says: none, or the number of one that was told -/
def Told (c0 : Value) : Prop := c0 = .none ∨ ∃ T : Addr, c0 = rawInt T
structure ZsAt (z TI TO : Addr) (ws : List (Addr × Addr)) (h : Heap) (c0 : Value) (f : Bool) (us : List Value) (at_ : Nat → Nat) : Prop where
  z : h.get? z = some (zCells c0 f TI TO)
  ti : h.get? TI = some (tCells (ws.map fun w => Value.ref w.1))
  to : h.get? TO = some (tCells us)
  len : us.length = ws.length
  its : ∀ k w, ws[k]? = some w → h.IsTupleIter w.1 w.2 (at_ k)
structure ZsApart (z TI TO : Addr) (ws : List (Addr × Addr)) : Prop where
  zTI : z ≠ TI
  zTO : z ≠ TO
  TITO : TI ≠ TO
  out : ∀ w ∈ ws, w.1 ≠ z ∧ w.1 ≠ TI ∧ w.1 ≠ TO ∧ w.2 ≠ z ∧ w.2 ≠ TO
  own : ∀ w ∈ ws, ∀ x ∈ ws, w.2 ≠ x.1
  sep : ∀ (j k : Nat) w x, ws[j]? = some w → ws[k]? = some x → j ≠ k → w.1 ≠ x.1

section
variable {prog : Program} {w : World} {A : Around} {E : Value → Shared → Prop} {s : Shared} {z TI TO : Addr} {ws : List (Addr × Addr)}

theorem loadAny {a : Addr} {Q : Option Obj → Shared → Prop} (h : Q (s.heap.get? a) s) : wpAny (model prog w) A (loadIfAlive a) Q E s := fun _ _ _ => h

/-- whether it is free: one or the other -/
theorem free_any {c0 : Value} {f : Bool} {Q : Bool → Shared → Prop} (hc : Told c0) (hz : s.heap.get? z = some (zCells c0 f TI TO))
    (h : ∀ b f' h', h'.get? z = some (zCells c0 f' TI TO) → Heap.SameBut z s.heap h' → Q b { s with heap := h' }) : wpAny (model prog w) A (Builtin.SmallTypes.ownedTupleIsFree (.ref z)) Q E s := by
  unfold Builtin.SmallTypes.ownedTupleIsFree
  rcases hc with rfl | ⟨T, rfl⟩
  · exact wpAny_bind (wpAny_field hz rfl (x := .none) rfl (wpAny_pure (h true f s.heap hz (Heap.SameBut.refl _ _))))
  · refine wpAny_bind (wpAny_field hz rfl (x := rawInt T) rfl ?_)
    show wpAny _ _ (loadIfAlive ((T : Int).toNat) >>= _) _ _ _
    refine wpAny_bind (loadAny ?_)
    cases s.heap.get? (T : Int).toNat with
    | none => exact wpAny_pure (h true f s.heap hz (Heap.SameBut.refl _ _))
    | some o =>
      refine wpAny_bind (wpAny_field hz rfl (x := .bool f) rfl ?_)
      cases f with
      | true => exact wpAny_pure (h false true s.heap hz (Heap.SameBut.refl _ _))
      | false => exact wpAny_bind (wpAny_setField_rec hz (by simp) fun h1 hz1 hs1 => wpAny_pure (h false true h1 hz1 hs1))

end

/-- where the iterators stand when the first j of them were drawn from -/
def drawn (i j k : Nat) : Nat := if k < j then i + 1 else i
theorem wsAt {ws : List (Addr × Addr)} {j : Nat} {w : Addr × Addr} (h : ws[j]? = some w) : w ∈ ws := List.mem_of_getElem? h

section
variable {prog : Program} {W : World} {A : Around} {E : Value → Shared → Prop} {s : Shared} {z TI TO : Addr} {ws : List (Addr × Addr)} {i : Nat} {col : Nat → Value}

/-- h' is h but for the cells in cs -/
def But (cs : List Addr) (h h' : Heap) : Prop := h'.objs.size = h.objs.size ∧ ∀ c, c ∉ cs → ∀ o, h.get? c = some o → h'.get? c = some o
theorem But.refl (cs : List Addr) (h : Heap) : But cs h h := ⟨rfl, fun _ _ _ e => e⟩
theorem But.trans {cs ds : List Addr} {h h1 h2 : Heap} (a : But cs h h1) (b : But ds h1 h2) : But (cs ++ ds) h h2 :=
  ⟨b.1.trans a.1, fun c hc o e => b.2 c (fun q => hc (List.mem_append_right _ q)) o (a.2 c (fun q => hc (List.mem_append_left _ q)) o e)⟩
theorem But.mono {cs ds : List Addr} {h h1 : Heap} (a : But cs h h1) (l : ∀ c ∈ cs, c ∈ ds) : But ds h h1 := ⟨a.1, fun c hc o e => a.2 c (fun q => hc (l c q)) o e⟩
theorem But.of {c : Addr} {h h1 : Heap} (a : Heap.SameBut c h h1) : But [c] h h1 := ⟨a.1, fun d hd o e => a.extBut d o (by simpa using hd) e⟩

/-- the state within a turn: the first j iterators drawn from; the zip's own cell and its told tuple aside -/
structure Mid (ws : List (Addr × Addr)) (i : Nat) (col : Nat → Value) (j : Nat) (h : Heap) : Prop where
  its : ∀ k w, ws[k]? = some w → h.IsTupleIter w.1 w.2 (drawn i j k)
  val : ∀ k w, ws[k]? = some w → ∃ us : Array Value, h.IsTuple w.2 us ∧ us[i]? = some (col k)
theorem Mid.but {D : ZsApart z TI TO ws} {j : Nat} {h h' : Heap} (m : Mid ws i col j h) {cs : List Addr} (b : But cs h h') (l : ∀ c ∈ cs, c = z ∨ c = TO) : Mid ws i col j h' := by
  refine ⟨fun k w e => ?_, fun k w e => ?_⟩
  · have o := D.out w (wsAt e)
    exact (m.its k w e).at fun ob q => b.2 _ (fun y => by rcases l _ y with h | h <;> simp_all) ob q
  · have o := D.out w (wsAt e)
    obtain ⟨us, h1, h2⟩ := m.val k w e
    exact ⟨us, h1.at fun ob q => b.2 _ (fun y => by rcases l _ y with h | h <;> simp_all) ob q, h2⟩
/-- one drawn from -/
theorem draw1 (D : ZsApart z TI TO ws) {j : Nat} {w : Addr × Addr} (m : Mid ws i col j s.heap) (e : ws[j]? = some w) {Q : Value → Shared → Prop}
    (h : ∀ h', Mid ws i col (j + 1) h' → But [w.1] s.heap h' → Q (col j) { s with heap := h' }) : wpAny (model prog W) A (Builtin.SmallTypes.nextOf (.ref w.1)) Q E s := by
  obtain ⟨us, h1, h2⟩ := m.val j w e
  have hi : s.heap.IsTupleIter w.1 w.2 i := by
    have q := m.its j w e
    simpa [drawn] using q
  refine wpAny_nextOf_tuple_item hi h1 h2 fun h' hit hs => h h' ⟨fun k x ex => ?_, fun k x ex => ?_⟩ (.of hs)
  · by_cases hk : k = j
    · subst hk
      have : w = x := Option.some.inj (e.symm.trans ex)
      subst this
      simpa [drawn] using hit
    · have ne : x.1 ≠ w.1 := D.sep k j x w ex e hk
      have q := m.its k x ex
      have dr : drawn i (j + 1) k = drawn i j k := by
        unfold drawn
        by_cases h1 : k < j
        · rw [if_pos h1, if_pos (by omega)]
        · rw [if_neg h1, if_neg (by omega)]
      rw [dr]
      exact q.at fun ob y => hs.extBut _ _ ne y
  · obtain ⟨us, q1, q2⟩ := m.val k x ex
    exact ⟨us, q1.at fun ob y => hs.extBut _ _ (D.own x (wsAt ex) w (wsAt e)) y, q2⟩
end

section
variable {prog : Program} {W : World} {A : Around} {E : Value → Shared → Prop} {s : Shared} {z TI TO : Addr} {ws : List (Addr × Addr)} {i : Nat} {col : Nat → Value}
theorem updTup {T : Addr} {us : List Value} {x : Value} {k : Nat} {Q : Unit → Shared → Prop} (hT : s.heap.get? T = some (tCells us)) (lt : us.length ≤ 100)
    (h : ∀ h', h'.get? T = some (tCells (us.set k x)) → Heap.SameBut T s.heap h' → Q () { s with heap := h' }) : wpAny (model prog W) A (updateSeq T (·.setIfInBounds k x)) Q E s := by
  have sz : (100 : Nat) ≤ sizeLine := by decide
  refine wpAny_updateSeq hT rfl (h _ ?_ (Heap.SameBut.update ..)) (by simp; omega) (by simp; omega)
  rw [Heap.get?_update_self _ hT rfl]
  simp [Obj.mapSeq]
theorem dropAt {α : Type} {l : List α} {j : Nat} {x : α} {r : List α} (e : x :: r = l.drop j) : l[j]? = some x ∧ r = l.drop (j + 1) := by
  have h1 : (l.drop j)[0]? = some x := by rw [← e]; rfl
  refine ⟨by simpa using h1, ?_⟩
  have h2 : (l.drop j).drop 1 = r := by rw [← e]; rfl
  rw [← h2, List.drop_drop]
theorem dropNil {α : Type} {l : List α} {j : Nat} (e : [] = l.drop j) (h : j ≤ l.length) : j = l.length := by
  have := congrArg List.length e
  simp at this
  omega
/-- one turn: a new tuple of what the iterators gave -/
theorem zs_item {w0 : Addr × Addr} {wr : List (Addr × Addr)} (ew : ws = w0 :: wr) (D : ZsApart z TI TO ws) {c0 : Value} {f : Bool} {us : List Value} (hc : Told c0) (hz : s.heap.get? z = some (zCells c0 f TI TO)) (hTI : s.heap.get? TI = some (tCells (ws.map fun w => Value.ref w.1)))
    (hTO : s.heap.get? TO = some (tCells us)) (hl : us.length = ws.length) (lw : ws.length ≤ 100) (m : Mid ws i col 0 s.heap) {Q : Value → Shared → Prop}
    (h : ∀ c1 f1 us1 h', Told c1 → h'.get? z = some (zCells c1 f1 TI TO) → h'.get? TO = some (tCells us1) → us1.length = ws.length → Mid ws i col ws.length h' → h'.get? s.heap.objs.size = some (tCells ((List.range ws.length).map col)) → 
      (∀ c, c ∉ [z, TO] ++ ws.map (·.1) → ∀ o, s.heap.get? c = some o → h'.get? c = some o) → Q (.ref s.heap.objs.size) { s with heap := h' }) :
    wpAny (model prog W) A (Builtin.«zip.__next__» ⟨[.ref z], []⟩) (fun fin s' => ∃ v, fin = .done (.ret v) ∧ Q v s') E s := by
  have sz : (100 : Nat) ≤ sizeLine := by decide
  have zlt : z < s.heap.objs.size := Heap.lt_size hz
  have Tlt : TO < s.heap.objs.size := Heap.lt_size hTO
  have wlt : ∀ w ∈ ws, w.1 < s.heap.objs.size := fun w hw => by
    obtain ⟨k, hk⟩ := List.getElem?_of_mem hw
    obtain ⟨o, ho, _⟩ := m.its k w hk
    exact Heap.lt_size ho
  have outz : z ∉ ws.map (·.1) := fun q => by
    obtain ⟨w, hw, e⟩ := List.mem_map.mp q
    exact (D.out w hw).1 e
  have outT : TO ∉ ws.map (·.1) := fun q => by
    obtain ⟨w, hw, e⟩ := List.mem_map.mp q
    exact (D.out w hw).2.2.1 e
  have mem1 : ∀ {w}, w ∈ ws → ∀ c ∈ [w.1], c ∈ [z, TO] ++ ws.map (·.1) := fun hw c hc => by
    rw [List.mem_singleton.mp hc]
    exact List.mem_append_right _ (List.mem_map_of_mem hw)
  have mid : ∀ {j : Nat} {h h' : Heap} {cs : List Addr}, Mid ws i col j h → But cs h h' → (∀ c ∈ cs, c = z ∨ c = TO) → Mid ws i col j h' := fun m b l => Mid.but (D := D) m b l
  have push1 : ∀ (h : Heap) (o : Obj) (hf : o.isFreed = false), ∀ c ob, h.get? c = some ob → (h.push o).get? c = some ob := fun h o _ c ob e => Heap.get?_push_of_some _ e
  have tz : ∀ {b : List Addr} {h h' : Heap}, (∀ c ∈ b, c ∈ [z, TO] ++ ws.map (·.1)) → But ([z, TO] ++ ws.map (·.1)) s.heap h → But b h h' → But ([z, TO] ++ ws.map (·.1)) s.heap h' := fun hb a b => (But.trans a b).mono fun c hc => by
    rcases List.mem_append.mp hc with q | q
    · exact q
    · exact hb c q
  subst ew
  show wpAny _ _ (field (.ref z) 2 >>= _) _ _ _
  refine wpAny_bind (wpAny_field hz rfl (x := .bool false) rfl ?_)
  show wpAny _ _ (field (.ref z) 3 >>= _) _ _ _
  refine wpAny_bind (wpAny_field hz rfl (x := .ref TI) rfl ?_)
  refine wpAny_bind (wpAny_seqItems hTI rfl ?_)
  show wpAny _ _ (Builtin.SmallTypes.ownedTupleIsFree (.ref z) >>= _) _ _ _
  refine wpAny_bind (free_any hc hz fun b f1 h1 hz1 hs1 => ?_)
  have b1 : But ([z, TO] ++ (w0 :: wr).map (·.1)) s.heap h1 := (But.of hs1).mono fun c hc => by rw [List.mem_singleton.mp hc]; simp
  have m1 := mid m (But.of hs1) fun c hc => .inl (List.mem_singleton.mp hc)
  have hTO1 : h1.get? TO = some (tCells us) := hs1.extBut _ _ D.zTO.symm hTO
  generalize hws : w0 :: wr = ws at *
  cases b with
  | true =>
    simp only [if_true]
    refine wpAny_bind (wpAny_rule ?_)
    refine wpAny_bind (wpAny_field hz1 rfl (x := .ref TO) rfl ?_)
    refine wpAny_bind (wpAny_setField_rec hz1 (by simp) fun h2 hz2 hs2 => ?_)
    replace hz2 : h2.get? z = some (zCells .ellipsis f1 TI TO) := hz2
    replace hs2 : Heap.SameBut z h1 h2 := hs2
    have b2 := tz (b := [z]) (by simp) b1 (But.of hs2)
    have m2 := mid m1 (But.of hs2) fun c hc => .inl (List.mem_singleton.mp hc)
    have hTO2 : h2.get? TO = some (tCells us) := hs2.extBut _ _ D.zTO.symm hTO1
    refine wpAny_bind ?_
    refine wpAny_forIn_list _ (fun rest b s' => b = (none, ()) ∧ ∃ (j : Nat) (h3 : Heap) (us3 : List Value), s' = { s with heap := h3 } ∧ rest = (ws.map fun w => Value.ref w.1).zipIdx.drop j ∧ j ≤ ws.length ∧ h3.get? z = some (zCells .ellipsis f1 TI TO) ∧ h3.get? TO = some (tCells us3) ∧ us3.length = ws.length ∧
      (∀ k, k < j → us3[k]? = some (col k)) ∧ Mid ws i col j h3 ∧ But ([z, TO] ++ ws.map (·.1)) s.heap h3) _ ?_ ?_ _ _ ⟨rfl, 0, h2, us, rfl, rfl, by omega, hz2, hTO2, hl, fun k hk => by omega, m2, b2⟩
    · rintro x rest b s' ⟨rfl, j, h3, us3, rfl, er, hj, gz, gT, l3, hv, m3, b3⟩
      obtain ⟨ex, er2⟩ := dropAt er
      have hj2 : j < ws.length := by
        have := (List.getElem?_eq_some_iff.mp ex).1
        simpa using this
      have ewj : ws[j]? = some ws[j] := List.getElem?_eq_getElem hj2
      have exx : x = (Value.ref ws[j].1, j) := by
        simp [List.getElem?_zipIdx, hj2] at ex
        exact ex.symm
      subst exx
      refine wpAny_bind (wpAny_onRaise ?_)
      show wpAny _ _ (Builtin.SmallTypes.nextOf (.ref ws[j].1) >>= _) _ _ _
      refine wpAny_bind (draw1 (s := { s with heap := h3 }) D m3 ewj fun h4 m4 b4 => wpAny_pure ?_)
      replace b4 : But [ws[j].1] h3 h4 := b4
      have nz : z ∉ [ws[j].1] := fun q => (D.out _ (wsAt ewj)).1 (List.mem_singleton.mp q).symm
      have nT : TO ∉ [ws[j].1] := fun q => (D.out _ (wsAt ewj)).2.2.1 (List.mem_singleton.mp q).symm
      have gT4 := b4.2 _ nT _ gT
      have gz4 := b4.2 _ nz _ gz
      refine wpAny_bind (wpAny_seqItems (s := { s with heap := h4 }) gT4 rfl ?_)
      refine wpAny_bind (updTup (s := { s with heap := h4 }) gT4 (by omega) fun h5 gT5 hs5 => ?_)
      replace hs5 : Heap.SameBut TO h4 h5 := hs5
      refine wpAny_bind (wpAny_letGo (wpAny_pure ⟨rfl, j + 1, h5, _, rfl, er2, by omega, hs5.extBut _ _ D.zTO gz4, gT5, by simp [l3], fun k hk => ?_, mid m4 (But.of hs5) fun c hc => .inr (List.mem_singleton.mp hc), tz (by simp) (tz (mem1 (wsAt ewj)) b3 b4) (But.of hs5)⟩))
      by_cases ek : k = j
      · subst ek
        rw [List.getElem?_set_self (by omega)]
      · rw [List.getElem?_set_ne (by omega)]
        exact hv k (by omega)
    · rintro b s' ⟨rfl, j, h3, us3, rfl, er, hj, gz, gT, l3, hv, m3, b3⟩
      have ej : j = ws.length := by
        have := dropNil er (by simp; omega)
        simpa using this
      subst ej
      have eus : us3 = (List.range ws.length).map col := by
        apply List.ext_getElem?
        intro k
        by_cases hk : k < ws.length
        · rw [hv k hk]
          simp [hk]
        · rw [List.getElem?_eq_none (by omega), List.getElem?_eq_none (by simp; omega)]
      have sz3 : h3.objs.size = s.heap.objs.size := b3.1
      refine wpAny_bind (wpAny_seqItems (s := { s with heap := h3 }) gT rfl ?_)
      refine wpAny_bind (wpAny_newTuple (s := { s with heap := h3 }) ?_ (by simp; omega))
      show wpAny _ _ (Builtin.SmallTypes.ownedTupleHandOut (.ref z) (.ref h3.objs.size) >>= _) _ _ _
      refine wpAny_bind ?_
      unfold Builtin.SmallTypes.ownedTupleHandOut
      have gz4 : (h3.push (tCells us3)).get? z = some (zCells .ellipsis f1 TI TO) := Heap.get?_push_of_some _ gz
      refine wpAny_bind (wpAny_setField_rec (s := { s with heap := h3.push (tCells us3) }) gz4 (by simp) fun h5 gz5 hs5 => ?_)
      replace gz5 : h5.get? z = some (zCells (rawInt h3.objs.size) f1 TI TO) := gz5
      refine wpAny_setField_rec (s := { s with heap := h5 }) gz5 (by simp) fun h6 gz6 hs6 => ?_
      replace gz6 : h6.get? z = some (zCells (rawInt h3.objs.size) false TI TO) := gz6
      replace hs5 : Heap.SameBut z (h3.push (tCells us3)) h5 := hs5
      replace hs6 : Heap.SameBut z h5 h6 := hs6
      have up : ∀ c o, c ≠ z → h3.get? c = some o → h6.get? c = some o := fun c o cz e => hs6.extBut _ _ cz (hs5.extBut _ _ cz (Heap.get?_push_of_some _ e))
      have gN : h6.get? s.heap.objs.size = some (tCells us3) := by
        have nz : s.heap.objs.size ≠ z := Nat.ne_of_gt zlt
        refine hs6.extBut _ _ nz (hs5.extBut _ _ nz ?_)
        rw [← sz3]
        exact Heap.get?_push_size _ rfl
      refine wpAny_pure ⟨_, rfl, ?_⟩
      show Q (.ref h3.objs.size) _
      rw [eus] at gN
      have fin := h (rawInt h3.objs.size) false us3 h6 (.inr ⟨_, rfl⟩) gz6 (up _ _ D.zTO.symm gT) l3 ?_ gN ?_
      · rw [sz3]
        exact fin
      · refine ⟨fun k w e => ?_, fun k w e => ?_⟩
        · exact (m3.its k w e).at fun ob q => up _ _ (D.out w (wsAt e)).1 q
        · obtain ⟨vs, v1, v2⟩ := m3.val k w e
          exact ⟨vs, v1.at fun ob q => up _ _ (D.out w (wsAt e)).2.2.2.1 q, v2⟩
      · intro c hc o e
        exact up c o (fun q => hc (by simp [q])) (b3.2 c hc o e)
  | false =>
    simp only [Bool.false_eq_true, if_false]
    refine wpAny_bind ?_
    rw [← Array.forIn_toList]
    refine wpAny_forIn_list _ (fun rest b s' => ∃ (j : Nat) (h3 : Heap), b = (none, ((List.range j).map col).toArray) ∧ s' = { s with heap := h3 } ∧ rest = (ws.map fun w => Value.ref w.1).drop j ∧ j ≤ ws.length ∧ h3.get? z = some (zCells c0 f1 TI TO) ∧ h3.get? TO = some (tCells us) ∧
      Mid ws i col j h3 ∧ But ([z, TO] ++ ws.map (·.1)) s.heap h3) _ ?_ ?_ _ _ ⟨0, h1, rfl, rfl, by simp, by omega, hz1, hTO1, m1, b1⟩
    · rintro x rest b s' ⟨j, h3, rfl, rfl, er, hj, gz, gT, m3, b3⟩
      obtain ⟨ex, er2⟩ := dropAt er
      have hj2 : j < ws.length := by
        have := (List.getElem?_eq_some_iff.mp ex).1
        simpa using this
      have ewj : ws[j]? = some ws[j] := List.getElem?_eq_getElem hj2
      have exx : x = Value.ref ws[j].1 := by
        simp [hj2] at ex
        exact ex.symm
      subst exx
      refine wpAny_bind (wpAny_holding ?_)
      show wpAny _ _ (Builtin.SmallTypes.nextOf (.ref ws[j].1) >>= _) _ _ _
      refine wpAny_bind (draw1 (s := { s with heap := h3 }) D m3 ewj fun h4 m4 b4 => wpAny_pure ?_)
      replace b4 : But [ws[j].1] h3 h4 := b4
      have nz : z ∉ [ws[j].1] := fun q => (D.out _ (wsAt ewj)).1 (List.mem_singleton.mp q).symm
      have nT : TO ∉ [ws[j].1] := fun q => (D.out _ (wsAt ewj)).2.2.1 (List.mem_singleton.mp q).symm
      refine wpAny_pure ⟨j + 1, h4, ?_, rfl, er2, by omega, b4.2 _ nz _ gz, b4.2 _ nT _ gT, m4, tz (mem1 (wsAt ewj)) b3 b4⟩
      simp [List.range_succ]
    · rintro b s' ⟨j, h3, rfl, rfl, er, hj, gz, gT, m3, b3⟩
      have ej : j = ws.length := by
        have := dropNil er (by simp; omega)
        simpa using this
      subst ej
      have sz3 : h3.objs.size = s.heap.objs.size := b3.1
      refine wpAny_bind (wpAny_newTuple (s := { s with heap := h3 }) ?_ (by simp; omega))
      refine wpAny_pure ⟨_, rfl, ?_⟩
      have up : ∀ (o : Obj) c ob, h3.get? c = some ob → (h3.push o).get? c = some ob := fun o c ob e => Heap.get?_push_of_some _ e
      have fin := h c0 f1 us (h3.push (tCells ((List.range ws.length).map col))) hc (up _ _ _ gz) (up _ _ _ gT) hl ⟨fun k w e => (m3.its k w e).at fun ob q => up _ _ _ q, fun k w e => ?_⟩ ?_ fun c hc o e => up _ _ _ (b3.2 c hc o e)
      · show Q (.ref h3.objs.size) _
        rw [sz3]
        exact fin
      · obtain ⟨vs, v1, v2⟩ := m3.val k w e
        exact ⟨vs, v1.at fun ob q => up _ _ _ q, v2⟩
      · rw [← sz3]
        exact Heap.get?_push_size _ rfl
end

section
variable {prog : Program} {W : World} {A : Around} {E : Value → Shared → Prop} {s : Shared} {z TI TO : Addr} {ws : List (Addr × Addr)} {i : Nat}
/-- the first iterator has ended -/
theorem zs_end {w0 : Addr × Addr} {wr : List (Addr × Addr)} (ew : ws = w0 :: wr) (hh : A.handled = none) (D : ZsApart z TI TO ws) {c0 : Value} {f : Bool} (hc : Told c0) (hz : s.heap.get? z = some (zCells c0 f TI TO)) (hTI : s.heap.get? TI = some (tCells (ws.map fun w => Value.ref w.1)))
    {us : List Value} (hTO : s.heap.get? TO = some (tCells us)) (hi : s.heap.IsTupleIter w0.1 w0.2 i) {vs : Array Value} (hv : s.heap.IsTuple w0.2 vs) (hn : vs[i]? = none) {Q : Fin → Shared → Prop}
    (hE : ∀ h' e, (∀ c, c ∉ [z, TO] ++ ws.map (·.1) → ∀ o, s.heap.get? c = some o → h'.get? c = some o) → (∃ o, h'.get? e = some o ∧ o.cls = .type "StopIteration") → E (.ref e) { s with heap := h' }) :
    wpAny (model prog W) A (Builtin.«zip.__next__» ⟨[.ref z], []⟩) Q E s := by
  subst ew
  have o := D.out w0 (List.mem_cons_self ..)
  show wpAny _ _ (field (.ref z) 2 >>= _) _ _ _
  refine wpAny_bind (wpAny_field hz rfl (x := .bool false) rfl ?_)
  show wpAny _ _ (field (.ref z) 3 >>= _) _ _ _
  refine wpAny_bind (wpAny_field hz rfl (x := .ref TI) rfl ?_)
  refine wpAny_bind (wpAny_seqItems hTI rfl ?_)
  show wpAny _ _ (Builtin.SmallTypes.ownedTupleIsFree (.ref z) >>= _) _ _ _
  refine wpAny_bind (free_any hc hz fun b f1 h1 hz1 hs1 => ?_)
  cases b with
  | true =>
    simp only [if_true]
    refine wpAny_bind (wpAny_rule ?_)
    refine wpAny_bind (wpAny_field hz1 rfl (x := .ref TO) rfl ?_)
    refine wpAny_bind (wpAny_setField_rec hz1 (by simp) fun h2 hz2 hs2 => ?_)
    replace hz2 : h2.get? z = some (zCells .ellipsis f1 TI TO) := hz2
    replace hs2 : Heap.SameBut z h1 h2 := hs2
    have k2 : ∀ c, c ≠ z → ∀ ob, s.heap.get? c = some ob → h2.get? c = some ob := fun c hc ob e => hs2.extBut _ _ hc (hs1.extBut _ _ hc e)
    refine wpAny_bind ?_
    rw [List.map_cons, List.zipIdx_cons, List.forIn_cons]
    refine wpAny_bind (wpAny_bind (wpAny_onRaise ?_))
    show wpAny _ _ (Builtin.SmallTypes.nextOf (.ref w0.1) >>= _) _ _ _
    refine wpAny_bind (wpAny_nextOf_tuple_end (s := { s with heap := h2 }) hh (hi.at fun ob q => k2 _ o.1 ob q) (hv.at fun ob q => k2 _ o.2.2.2.1 ob q) hn fun h3 e hs3 he => ?_)
    have hz3 : h3.get? z = some (zCells .ellipsis f1 TI TO) := hs3 _ _ o.1.symm hz2
    refine wpAny_setField_rec (s := { s with heap := h3 }) hz3 (by simp) fun h4 hz4 hs4 => ?_
    replace hs4 : Heap.SameBut z h3 h4 := hs4
    obtain ⟨oe, e1, e2⟩ := he
    have ez : e ≠ z := fun q => by
      subst q
      rw [hz3] at e1
      cases e1
      injection e2 with q
      exact absurd q (by decide)
    refine hE h4 e (fun c hc ob y => ?_) ⟨oe, hs4.extBut _ _ ez e1, e2⟩
    have c1 : c ≠ z := fun q => hc (by simp [q])
    have c2 : c ≠ w0.1 := fun q => hc (by simp [q])
    exact hs4.extBut _ _ c1 (hs3 _ _ c2 (k2 c c1 ob y))
  | false =>
    simp only [Bool.false_eq_true, if_false]
    refine wpAny_bind ?_
    rw [← Array.forIn_toList]
    have k1 : ∀ c, c ≠ z → ∀ ob, s.heap.get? c = some ob → h1.get? c = some ob := fun c hc ob e => hs1.extBut _ _ hc e
    have e0 : ((w0 :: wr).map fun w => Value.ref w.1).toArray.toList = Value.ref w0.1 :: wr.map fun w => Value.ref w.1 := by simp
    rw [e0, List.forIn_cons]
    refine wpAny_bind (wpAny_bind (wpAny_holding ?_))
    show wpAny _ _ (Builtin.SmallTypes.nextOf (.ref w0.1) >>= _) _ _ _
    refine wpAny_bind (wpAny_nextOf_tuple_end (s := { s with heap := h1 }) hh (hi.at fun ob q => k1 _ o.1 ob q) (hv.at fun ob q => k1 _ o.2.2.2.1 ob q) hn fun h3 e hs3 he => ?_)
    refine hE h3 e (fun c hc ob y => ?_) he
    have c1 : c ≠ z := fun q => hc (by simp [q])
    have c2 : c ≠ w0.1 := fun q => hc (by simp [q])
    exact hs3 _ _ c2 (k1 c c1 ob y)
theorem zs_nextItem {Q : Option Value → Shared → Prop} {o : Obj} (hz : s.heap.get? z = some o) (hT : o.cls = .type "zip")
    (h : wpAny (model prog W) A.in1 (Builtin.«zip.__next__» ⟨[.ref z], []⟩) (fun fin s' => ∃ v, fin = .done (.ret v) ∧ Q (some v) s') (fun e s' => ∃ a, e = .ref a ∧ (∃ o, s'.heap.get? a = some o ∧ o.cls = .type "StopIteration") ∧ Q none s') s) : wpAny (model prog W) A (pyNext (.ref z)) Q E s := by
  have ty : s.TypeIs (.ref z) "zip" := ⟨_, hz, hT⟩
  unfold pyNext
  refine wpAny_bind (wpAny_attempt (wpAny_callSpecial?_slot (name := Str.ofString "__next__") ty F.slot_zip_next ?_))
  refine wpAny_call_entry F.slot_zip_next ty F.entry_zip_next ?_ (F.args_zip_next_1 _)
  refine wpAny_mono h (fun fin s1 ⟨v, e, q⟩ => ⟨v, e, wpAny_pure q⟩) fun e s1 ⟨a, ea, ⟨o, ho, hc⟩, q⟩ => ?_
  subst ea
  exact wpAny_bind (wpAny_isInstance (T := "StopIteration") (b := true) ⟨o, ho, hc⟩ isSubtype_stop (wpAny_pure q))
end

/-! ### it begins -/
theorem ntc1 (a : Value) : checkTypeCall "zip" ⟨[a], []⟩ = pure () := by kernel_rfl
theorem nnc1 (a : Value) : checkBuiltinCall "zip.__new__" ⟨[.type "zip", a], []⟩ = pure () := by kernel_rfl
section
variable {prog : Program} {W : World} {A : Around} {E : Value → Shared → Prop} {s : Shared}
/-- what stands behind the making of it: n the first new cell -/
structure Zs0 (h h' : Heap) (as : List Addr) : Prop where
  z : h'.get? (h.objs.size + as.length + 2) = some (zCells .none false (h.objs.size + as.length) (h.objs.size + as.length + 1))
  ti : h'.get? (h.objs.size + as.length) = some (tCells ((List.range as.length).map fun k => Value.ref (h.objs.size + k)))
  to : h'.get? (h.objs.size + as.length + 1) = some (tCells (as.map fun _ => Value.none))
  its : ∀ k a, as[k]? = some a → h'.IsTupleIter (h.objs.size + k) a 0
  keep : ∀ c o, h.get? c = some o → h'.get? c = some o
abbrev itO (a : Addr) : Obj := { cls := .type "tuple_iterator", data := .fields #[.ref a, .int 0 0] }
theorem meets_zs1 {a : Addr} {us : Array Value} :
    Meets (Builtin.«zip.__new__» ⟨[.type "zip", .ref a], []⟩) (fun _ R s => s.heap.IsTuple a us ∧ ∀ h', Zs0 s.heap h' [a] → R (.ok (.ret (.ref (s.heap.objs.size + 3)))) { s with heap := h' }) :=
  .of_wp fun prog w A R s h => by
    obtain ⟨hp, g, d, tk, os⟩ := s
    obtain ⟨h1, h⟩ := h
    have sub := sub_zip
    have step : ∀ {A' : Around} {E : Value → Shared → Prop} {Q : Value → Shared → Prop}, Q (.ref hp.objs.size) ⟨hp.push (itO a), g, d, tk, os⟩ → wpAny (model prog w) A' (pyIter (.ref a)) Q E ⟨hp, g, d, tk, os⟩ :=
      fun q => (begins_tuple a us).iter prog w _ _ ⟨hp, g, d, tk, os⟩ _ h1 q
    wp_walk using step
    refine ⟨_, rfl, ?_⟩
    have s1 : (hp.push (itO a)).objs.size = hp.objs.size + 1 := Heap.size_push ..
    have s2 : ((hp.push (itO a)).push (tCells [Value.ref hp.objs.size])).objs.size = hp.objs.size + 2 := by rw [Heap.size_push, s1]
    have s3 : (((hp.push (itO a)).push (tCells [Value.ref hp.objs.size])).push (tCells [Value.none])).objs.size = hp.objs.size + 3 := by rw [Heap.size_push, s2]
    have fin := h ((((hp.push (itO a)).push (tCells [Value.ref hp.objs.size])).push (tCells [Value.none])).push (zCells .none false (hp.push (itO a)).objs.size ((hp.push (itO a)).push (tCells [Value.ref hp.objs.size])).objs.size)) ⟨?_, ?_, ?_, fun k x e => ?_, fun c o e => ?_⟩
    · rw [← s3] at fin
      exact fin
    · show Heap.get? _ (hp.objs.size + 3) = some (zCells .none false (hp.objs.size + 1) (hp.objs.size + 2))
      rw [← s3, Heap.get?_push_size _ rfl, s1, s2]
    · show Heap.get? _ (hp.objs.size + 1) = some (tCells [Value.ref hp.objs.size])
      rw [← s1]
      exact Heap.get?_push_of_some _ (Heap.get?_push_of_some _ (Heap.get?_push_size _ rfl))
    · show Heap.get? _ (hp.objs.size + 2) = some (tCells [Value.none])
      rw [← s2]
      exact Heap.get?_push_of_some _ (Heap.get?_push_size _ rfl)
    · cases k with
      | zero =>
        have : a = x := by simpa using e
        subst this
        exact ⟨_, Heap.get?_push_of_some _ (Heap.get?_push_of_some _ (Heap.get?_push_of_some _ (Heap.get?_push_size _ rfl))), rfl, rfl⟩
      | succ k => simp at e
    · exact Heap.get?_push_of_some _ (Heap.get?_push_of_some _ (Heap.get?_push_of_some _ (Heap.get?_push_of_some _ e)))
/-- the call, of one to three tuples -/
theorem zs_starts {as : List Addr} (l1 : 1 ≤ as.length) (l3 : as.length ≤ 3) (ht : ∀ a ∈ as, ∃ us, s.heap.IsTuple a us) {Q : Value → Shared → Prop}
    (h : ∀ h', Zs0 s.heap h' as → Q (.ref (s.heap.objs.size + as.length + 2)) { s with heap := h' }) : wpAny (model prog W) A (call (.type "zip") (as.map Value.ref)) Q E s := by
  match as, l1, l3 with
  | [a], _, _ =>
    obtain ⟨us, hu⟩ := ht a (by simp)
    exact callType_new F.called_zip (by decide) (ntc1 _) (nnc1 _) (fun obj => F.args_object_init_2 obj _) F.entry_zip_new meets_zs1 ⟨hu, fun h' z => ⟨⟨_, z.z, rfl⟩, h h' z⟩⟩
  | [a, b], _, _ =>
    obtain ⟨us, hu⟩ := ht a (by simp)
    obtain ⟨vs, hv⟩ := ht b (by simp)
    refine zip_begins2 (begins_tuple a us) (begins_tuple b vs) hu hv fun h' hz hTI hTO g1 g2 hsz hk => h h' ⟨hz, hTI, hTO, fun k x e => ?_, hk⟩
    match k, e with
    | 0, e =>
      have : a = x := by simpa using e
      subst this
      exact ⟨_, g1, rfl, rfl⟩
    | 1, e =>
      have : b = x := by simpa using e
      subst this
      exact ⟨_, g2, rfl, rfl⟩
    | k + 2, e => simp at e
  | [a, b, c], _, _ =>
    obtain ⟨us, hu⟩ := ht a (by simp)
    obtain ⟨vs, hv⟩ := ht b (by simp)
    obtain ⟨xs, hx⟩ := ht c (by simp)
    refine zip_begins3 (begins_tuple a us) (begins_tuple b vs) (begins_tuple c xs) hu hv hx fun h' hz hTI hTO g1 g2 g3 hsz hk => h h' ⟨hz, hTI, hTO, fun k x e => ?_, hk⟩
    match k, e with
    | 0, e =>
      have : a = x := by simpa using e
      subst this
      exact ⟨_, g1, rfl, rfl⟩
    | 1, e =>
      have : b = x := by simpa using e
      subst this
      exact ⟨_, g2, rfl, rfl⟩
    | 2, e =>
      have : c = x := by simpa using e
      subst this
      exact ⟨_, g3, rfl, rfl⟩
    | k + 3, e => simp at e
  | _ :: _ :: _ :: _ :: _, _, l => exact absurd l (by simp)
end
end LW

namespace LW
open PySem PySem.Spec PyProof.Rows L2

/-- the i-th of each -/
def colV (xss : List (List V)) (i : Nat) : List V := xss.map (·.getD i .non)
/-- the tuples at the addresses as: the lists xss -/
abbrev TupsIn (K : PySem.W.Frag) (H : Hp) (as : List Addr) (xss : List (List V)) : Prop := Paired (SqT K H) as xss
def ItS (K : PySem.W.Frag) (as : List Addr) : It :=
  ⟨fun i H => ∃ xss : List (List V), TupsIn K H as xss ∧ ∀ xs ∈ xss, i < xs.length,
    fun i H v H' => ∃ T, v = .ref T ∧ H T = none ∧ ∀ xss, TupsIn K H as xss → H' = upd H T (.tup (colV xss i)),
    fun i H => ∃ xss : List (List V), TupsIn K H as xss ∧ ∀ xs ∈ xss, xs.length = i⟩
/-- the iterators' cells from n on, beside what they walk -/
def cellsOf : Nat → List Addr → List (Addr × Addr)
  | _, [] => []
  | n, a :: r => (n, a) :: cellsOf (n + 1) r
theorem cellsLen : ∀ (n : Nat) (as : List Addr), (cellsOf n as).length = as.length
  | _, [] => rfl
  | n, _ :: r => by simp [cellsOf, cellsLen (n + 1) r]
theorem cellsAt : ∀ (n : Nat) (as : List Addr) (k : Nat) (w : Addr × Addr), (cellsOf n as)[k]? = some w → w.1 = n + k ∧ as[k]? = some w.2
  | _, [], k, w, e => by simp [cellsOf] at e
  | n, a :: r, 0, w, e => by
    have : (n, a) = w := by simpa [cellsOf] using e
    subst this
    exact ⟨rfl, rfl⟩
  | n, a :: r, k + 1, w, e => by
    have q := cellsAt (n + 1) r k w (by simpa [cellsOf] using e)
    refine ⟨?_, by simpa using q.2⟩
    have := q.1
    have e2 : (n + 1 + k : Nat) = n + (k + 1) := by omega
    rw [this]
    exact e2
theorem cellsFst : ∀ (n : Nat) (as : List Addr), (cellsOf n as).map (fun w => Value.ref w.1) = (List.range as.length).map fun k => Value.ref (n + k)
  | _, [] => rfl
  | n, a :: r => by
    rw [cellsOf, List.map_cons, cellsFst (n + 1) r, List.length_cons, List.range_succ_eq_map, List.map_cons, List.map_map]
    congr 1
    apply List.map_congr_left
    intro k _
    show Value.ref (n + 1 + k : Nat) = Value.ref (n + (k + 1) : Nat)
    exact congrArg Value.ref (show (n + 1 + k : Nat) = n + (k + 1) by omega)
theorem cellsApart {n : Nat} {as : List Addr} (h : ∀ a ∈ as, a < n) : ZsApart (n + as.length + 2) (n + as.length) (n + as.length + 1) (cellsOf n as) := by
  have key : ∀ w ∈ cellsOf n as, n ≤ w.1 ∧ w.1 < n + as.length ∧ w.2 < n := fun w hw => by
    obtain ⟨k, hk⟩ := List.getElem?_of_mem hw
    obtain ⟨e1, e2⟩ := cellsAt n as k w hk
    have l := (List.getElem?_eq_some_iff.mp e2).1
    rw [e1]
    exact ⟨Nat.le_add_right .., Nat.add_lt_add_left l n, h _ (List.mem_of_getElem? e2)⟩
  have lt1 : ∀ m : Nat, m < m + 1 := fun m => Nat.lt_succ_self m
  refine ⟨Nat.ne_of_gt (Nat.lt_of_lt_of_le (lt1 _) (Nat.le_add_right _ 1)), Nat.ne_of_gt (lt1 _), Nat.ne_of_lt (lt1 _), fun w hw => ?_, fun w hw x hx => ?_, fun j k w x ew ex ne e => ?_⟩
  · obtain ⟨h1, h2, h3⟩ := key w hw
    exact ⟨Nat.ne_of_lt (Nat.lt_of_lt_of_le h2 (Nat.le_add_right _ 2)), Nat.ne_of_lt h2, Nat.ne_of_lt (Nat.lt_of_lt_of_le h2 (Nat.le_add_right _ 1)),
      Nat.ne_of_lt (Nat.lt_of_lt_of_le h3 (Nat.le_trans (Nat.le_add_right n _) (Nat.le_add_right _ 2))), Nat.ne_of_lt (Nat.lt_of_lt_of_le h3 (Nat.le_trans (Nat.le_add_right n _) (Nat.le_add_right _ 1)))⟩
  · exact Nat.ne_of_lt (Nat.lt_of_lt_of_le (key w hw).2.2 (key x hx).1)
  · exact ne (Nat.add_left_cancel ((cellsAt n as j w ew).1.symm.trans (e.trans (cellsAt n as k x ex).1)))

def ZsSt (z TI TO : Addr) (ws : List (Addr × Addr)) (i : Nat) (h : Heap) : Prop :=
  ∃ (c0 : Value) (f : Bool) (us : List Value), Told c0 ∧ h.get? z = some (zCells c0 f TI TO) ∧ h.get? TI = some (tCells (ws.map fun w => Value.ref w.1)) ∧ h.get? TO = some (tCells us) ∧ us.length = ws.length ∧ ∀ (k : Nat) (w : Addr × Addr), ws[k]? = some w → h.IsTupleIter w.1 w.2 i

/-- what stands in the tuples, item i -/
theorem colsOf {X : Cx} {pins : List (Addr × Obj)} {σ : L2.St} {H : Hp} {s : Shared} {i : Nat} (I : Inv X pins σ H s) : ∀ {as : List Addr} {xss : List (List V)}, TupsIn X.K H as xss → (∀ xs ∈ xss, i < xs.length) →
    ∃ cs : List Value, Vals (colV xss i) cs ∧ ∀ (k : Nat) a, as[k]? = some a → ∃ us : Array Value, s.heap.IsTuple a us ∧ us[i]? = some (cs.getD k .none)
  | [], [], _, _ => ⟨[], .nil, fun k a e => by simp at e⟩
  | a0 :: r, xs :: xr, .cons r0 t, h => by
    obtain ⟨cs, h1, h2⟩ := colsOf I t fun ys hy => h ys (List.mem_cons_of_mem _ hy)
    obtain ⟨its, rv, p, _⟩ := I.tuple r0
    have hi := h xs (List.mem_cons_self ..)
    obtain ⟨u, hu, ru⟩ := rv.get (List.getElem?_eq_getElem hi)
    refine ⟨u :: cs, .cons (by simpa [List.getD, hi] using ru) h1, fun k a e => ?_⟩
    cases k with
    | zero =>
      have : a0 = a := by simpa using e
      subst this
      exact ⟨its.toArray, p, by simpa using hu⟩
    | succ k =>
      obtain ⟨us, q1, q2⟩ := h2 k a (by simpa using e)
      exact ⟨us, q1, by simpa using q2⟩
theorem tupsInj {X : Cx} {pins : List (Addr × Obj)} {σ : L2.St} {H : Hp} {s : Shared} (I : Inv X pins σ H s) : ∀ {as : List Addr} {xss yss : List (List V)}, TupsIn X.K H as xss → TupsIn X.K H as yss → xss = yss
  | _, _, _, .nil, .nil => rfl
  | _, _, _, .cons r t, .cons r' t' => by rw [I.tuple_inj r r', tupsInj I t t']

theorem selfIter {prog : Program} {W : World} {A : Around} {E : Value → Shared → Prop} {s : Shared} {z : Addr} {c0 : Value} {f : Bool} {TI TO : Addr} {Q : Value → Shared → Prop} (hz : s.heap.get? z = some (zCells c0 f TI TO)) (h : Q (.ref z) s) : wpAny (model prog W) A (pyIter (.ref z)) Q E s := by
  have ty : s.TypeIs (.ref z) "zip" := ⟨_, hz, rfl⟩
  exact wpAny_pyIter_slot ty F.slot_zip_iter (wpAny_call_entry F.slot_zip_iter ty F.entry_zip_iter (wpAny_pure ⟨_, rfl, _, _, ty, F.slot_zip_next.lookup, h⟩) (F.args_zip_iter_1 _))
theorem fpS {z TI TO c : Addr} {ws : List (Addr × Addr)} (h : c ∈ [z, TI, TO] ++ ws.map (·.1)) : c = z ∨ c = TI ∨ c = TO ∨ ∃ w ∈ ws, w.1 = c := by
  rcases List.mem_append.mp h with q | q
  · have : c = z ∨ c = TI ∨ c = TO := by simpa using q
    rcases this with e | e | e
    · exact .inl e
    · exact .inr (.inl e)
    · exact .inr (.inr (.inl e))
  · exact .inr (.inr (.inr (List.mem_map.mp q)))
theorem turnS {P : Program} {w : World} {K : PySem.W.Frag} {x : Str} {pos : Pos} {z TI TO : Addr} {ws : List (Addr × Addr)} {w0 : Addr × Addr} {wr : List (Addr × Addr)} (ew : ws = w0 :: wr) (lw : ws.length ≤ 100) (D : ZsApart z TI TO ws) :
    Turn P w K (.Name x pos) (ItS K (ws.map (·.2))) ([z, TI, TO] ++ ws.map (·.1)) z (ZsSt z TI TO ws) where
  mem := by simp
  obj := by
    intro i h st d hd
    obtain ⟨c0, f, us, hc, hz, hI, hO, hl, hi⟩ := st
    rcases fpS hd with rfl | rfl | rfl | ⟨v, hv, rfl⟩
    · exact ⟨_, hz, fun v q => nomatch q⟩
    · exact ⟨_, hI, fun v q => nomatch q⟩
    · exact ⟨_, hO, fun v q => nomatch q⟩
    · obtain ⟨k, hk⟩ := List.getElem?_of_mem hv
      obtain ⟨o, ho, _, hd⟩ := hi k v hk
      exact ⟨o, ho, fun v q => by rw [hd] at q; cases q⟩
  keep := by
    intro i h h' st k
    obtain ⟨c0, f, us, hc, hz, hI, hO, hl, hi⟩ := st
    refine ⟨c0, f, us, hc, k z (by simp) _ hz, k TI (by simp) _ hI, k TO (by simp) _ hO, hl, fun j v e => (hi j v e).at fun o q => k v.1 ?_ o q⟩
    exact List.mem_append_right _ (List.mem_map_of_mem (wsAt e))
  item := by
    intro X hP hw hK hcalm i pins s σ H E I hf st hg
    subst hP hw hK
    obtain ⟨c0, f, us, hc, hz, hI, hO, hl, hi⟩ := st
    obtain ⟨xss, hx, hlt⟩ := hg
    obtain ⟨cs, rv, hcs⟩ := colsOf I hx hlt
    have lx : xss.length = ws.length := by
      have := Paired.length hx
      simpa using this.symm
    have lc : cs.length = ws.length := by
      have := rv.length
      simp [colV] at this
      omega
    have m : Mid ws i (fun k => cs.getD k .none) 0 s.heap := by
      refine ⟨fun k v e => by simpa [drawn] using hi k v e, fun k v e => ?_⟩
      exact hcs k v.2 (by simp [e])
    have ecs : (List.range ws.length).map (fun k => cs.getD k .none) = cs := by
      apply List.ext_getElem?
      intro k
      by_cases hk : k < ws.length
      · have : k < cs.length := by omega
        simp [hk, this]
      · rw [List.getElem?_eq_none (by simp; omega), List.getElem?_eq_none (by omega)]
    refine zs_nextItem hz rfl ?_
    refine wpAny_mono (zs_item ew D hc hz hI hO hl lw m (Q := fun v s' => v = .ref s.heap.objs.size ∧ ∃ x H', Inv X pins σ H' s' ∧ RelV x v ∧ (ItS X.K (ws.map (·.2))).yld i H x H' ∧ ZsSt z TI TO ws (i + 1) s'.heap ∧ ∀ b ∈ [z, TI, TO] ++ ws.map (·.1), H' b = none) fun c1 f1 us1 h' hc1 gz gO l1 m1 gN hk => ?_) (fun fin s1 ⟨v, e, q⟩ => ⟨v, e, v, rfl, wpAny_pure q.2⟩) fun e s1 q => q
    rw [ecs] at gN
    have TIn : TI ∉ [z, TO] ++ ws.map (·.1) := fun q => by
      rcases List.mem_append.mp q with q | q
      · have : TI = z ∨ TI = TO := by simpa using q
        rcases this with e | e
        · exact D.zTI e.symm
        · exact D.TITO e
      · obtain ⟨v, hv, e⟩ := List.mem_map.mp q
        exact (D.out v hv).2.1 e
    have new : ObjOk X.prog X.w (upd H s.heap.objs.size (.tup (colV xss i))) h' s.heap.objs.size (.tup (colV xss i)) :=
      ⟨by show (colV xss i).length ≤ sizeLine; have sz : (100 : Nat) ≤ sizeLine := by decide
          simp [colV]; omega, cs, rv, ⟨_, gN, rfl, _, rfl⟩⟩
    have I1 : Inv X pins σ (upd H s.heap.objs.size (.tup (colV xss i))) { s with heap := h', toks := s.toks } :=
      I.turnedNew (t' := s.toks) (ch := [z, TI, TO] ++ ws.map (·.1)) (fun d o nd q => hk d (fun y => nd (by
        rcases List.mem_append.mp y with y | y
        · have : d = z ∨ d = TO := by simpa using y
          rcases this with e | e <;> simp [e]
        · exact List.mem_append_right _ y)) o q) hf (Nat.le_refl _) new
    refine ⟨rfl, .ref s.heap.objs.size, _, I1, rfl, ⟨_, rfl, I.hok.fresh (Nat.le_refl _), fun yss hy => by rw [tupsInj I hy hx]⟩, ⟨c1, f1, us1, hc1, gz, hk _ TIn _ hI, gO, l1, fun k v e => ?_⟩, fun d hd => ?_⟩
    · have q := m1.its k v e
      have : k < ws.length := (List.getElem?_eq_some_iff.mp e).1
      simpa [drawn, this] using q
    · have dl : d < s.heap.objs.size := by
        rcases fpS hd with rfl | rfl | rfl | ⟨v, hv, rfl⟩
        · exact Heap.lt_size hz
        · exact Heap.lt_size hI
        · exact Heap.lt_size hO
        · obtain ⟨k, hk⟩ := List.getElem?_of_mem hv
          obtain ⟨o, ho, _⟩ := hi k v hk
          exact Heap.lt_size ho
      rw [upd_ne (Nat.ne_of_lt dl)]
      exact (hf d hd).1
  done := by
    intro X hP hw hK hcalm i pins s σ H E I hf st hg
    subst hP hw hK
    obtain ⟨c0, f, us, hc, hz, hI, hO, hl, hi⟩ := st
    obtain ⟨xss, hx, hlt⟩ := hg
    subst ew
    cases hx with
    | cons r0 t =>
    obtain ⟨its, rv, p, _⟩ := I.tuple r0
    have l0 := hlt _ (List.mem_cons_self ..)
    have lr := rv.length
    refine zs_nextItem hz rfl (zs_end (A := X.A.in1) rfl (I.ok.hd hcalm) D hc hz hI hO (hi 0 w0 rfl) p (by simp; omega) fun h' e hk he => ?_)
    refine ⟨e, rfl, he, rfl, ?_⟩
    exact I.turnedL (t' := s.toks) (ch := [z, TI, TO] ++ (w0 :: wr).map (·.1)) (fun d o nd q => hk d (fun y => nd (by
        rcases List.mem_append.mp y with y | y
        · have : d = z ∨ d = TO := by simpa using y
          rcases this with e | e <;> simp [e]
        · exact List.mem_append_right _ y)) o q) hf
  self := fun A i s Q E st h => by
    obtain ⟨c0, f, us, hc, hz, _⟩ := st
    exact selfIter hz h
theorem callWith_tyS {M : Model} {A : Around} {E : Value → Shared → Prop} {s : Shared} {env : Env} {pos p : Pos} {T : String} {e : Expr} {Q : Value → Shared → Prop}
    (h : wpAny M A (eval e env) (fun v s1 => PySem.W.StarOf M A E v (fun vs s2 => wpAny M A (call (.type T) vs) Q E s2) s1) E s) (he : starEach [.Starred e p] env = [(true, eval e env)]) :
    wpAny M A (callWith pos (.type T) [] (backTo pos (starEach [.Starred e p] env)) []) Q E s := by
  rw [he]
  exact PySem.W.ks_call (P := fun _ => True) rfl (fun h _ => ⟨.machine, .inr (.inl rfl), PySem.W.Looks.of_pure rfl⟩) (PySem.W.ks_lone (PySem.wpAny_mono h (fun v s1 q => PySem.wpAny_mono q (fun b s2 q2 => ⟨q2.1, PySem.wpAny_mono q2.2 (fun vs s3 q3 => ⟨trivial, q3⟩) fun _ _ x => x⟩) fun _ _ x => x) fun _ _ x => x))
def iZS (K : PySem.W.Frag) (te : TE) : TI := fun σ H R => te σ H fun v H1 => ∃ (p : Addr) (as : List Addr) (xss : List (List V)), v = .ref p ∧ (SqT K H1 p (as.map V.ref) ∨ SqL K H1 p (as.map V.ref)) ∧ TupsIn K H1 as xss ∧ 1 ≤ as.length ∧ as.length ≤ 3 ∧ R (ItS K as) H1
theorem valsRefs : ∀ {as : List Addr} {us : List Value}, Vals (as.map V.ref) us → us = as.map Value.ref
  | [], _, .nil => rfl
  | a :: r, _, .cons h t => by
    have e : _ = Value.ref a := h
    rw [e, valsRefs t]
    rfl
theorem cellsSnd : ∀ (n : Nat) (as : List Addr), (cellsOf n as).map (·.2) = as
  | _, [] => rfl
  | n, a :: r => by rw [cellsOf, List.map_cons, cellsSnd (n + 1) r]
theorem piZS {X : Cx} {e : Expr} {te : TE} {x : Str} {p sp pos tpos : Pos} (hg : Gl X "zip") (hm : X.mg "zip" = none) (he : PE X e te) (hs : starEach [.Starred e sp] X.env = [(true, eval e X.env)] := by rfl) :
    PI X (.Name x tpos) (.Call (.Name "zip" p) [.Starred e sp] [] pos) (iZS X.K te) := by
  constructor
  intro pins s σ H R I h
  refine Call_ (ld_blt I hg hm PyProof.Rows.boot_zip (callWith_tyS (thn (he.run pins s σ H _ I h) fun u s1 hyp => ?_) hs))
  obtain ⟨v, H1, I1, r1, a, as, xss, rfl, hl, hx, l1, l3, q⟩ := hyp
  obtain rfl : u = Value.ref a := r1
  refine StX.star_any I1 hl fun us s2 I2 rv => ?_
  have eus := valsRefs rv
  subst eus
  have tup : ∀ b ∈ as, ∃ us : Array Value, s2.heap.IsTuple b us ∧ b < s2.heap.objs.size := by
    have key : ∀ {as : List Addr} {xss : List (List V)}, TupsIn X.K H1 as xss → ∀ b ∈ as, ∃ us : Array Value, s2.heap.IsTuple b us ∧ b < s2.heap.objs.size := by
      intro as xss hx
      induction hx with
      | nil => intro b hb; cases hb
      | cons r t ih =>
        intro b hb
        rcases List.mem_cons.mp hb with e | hb
        · subst e
          obtain ⟨its, rv, p, _⟩ := I2.tuple r
          obtain ⟨o, ho, _⟩ := id p
          exact ⟨_, p, Heap.lt_size ho⟩
        · exact ih b hb
    exact key hx
  refine zs_starts l1 l3 (fun b hb => (tup b hb).imp fun _ q => q.1) fun h' z => wpAny_pyIter_zip z.z ?_
  have D : ZsApart _ _ _ (cellsOf s2.heap.objs.size as) := cellsApart (n := s2.heap.objs.size) fun b hb => by
    obtain ⟨_, _, l⟩ := tup b hb
    exact l
  have lc := cellsLen s2.heap.objs.size as
  obtain ⟨w0, wr, ew⟩ : ∃ w0 wr, cellsOf s2.heap.objs.size as = w0 :: wr := by
    match as, l1 with
    | a :: r, _ => exact ⟨_, _, rfl⟩
  have T := turnS (P := X.prog) (w := X.w) (K := X.K) (x := x) (pos := tpos) ew (by omega) D
  rw [cellsSnd] at T
  refine ⟨_, _, _, _, H1, rfl, I2.kept (t' := s2.toks) z.keep, T, ⟨.none, false, _, .inl rfl, z.z, ?_, z.to, by simp [lc], fun k w e => ?_⟩, fun d hd => ?_, q⟩
  · rw [cellsFst]
    exact z.ti
  · obtain ⟨e1, e2⟩ := cellsAt _ _ _ _ e
    rw [e1]
    exact z.its k w.2 e2
  · have hle : s2.heap.objs.size ≤ d := by
      rcases fpS hd with rfl | rfl | rfl | ⟨v, hv, rfl⟩
      · exact Nat.le_trans (Nat.le_add_right _ _) (Nat.le_add_right _ 2)
      · exact Nat.le_add_right _ _
      · exact Nat.le_trans (Nat.le_add_right _ _) (Nat.le_add_right _ 1)
      · obtain ⟨k, hk⟩ := List.getElem?_of_mem hv
        rw [(cellsAt _ _ _ _ hk).1]
        exact Nat.le_add_right _ _
    exact I2.fpOk hle (I2.hok.fresh hle)
/-- what a walk over it gives -/
def YCol (xss : List (List V)) : Nat → Hp → V → Hp → Prop := fun i H v H' => ∃ T, v = .ref T ∧ H T = none ∧ H' = upd H T (.tup (colV xss i))
theorem walkS {K : PySem.W.Frag} {as : List Addr} {xss : List (List V)} {n : Nat} (hn : ∀ xs ∈ xss, xs.length = n) : Walk (ItS K as) n (fun H => TupsIn K H as xss) (YCol xss) :=
  ⟨fun i H hi h => ⟨xss, h, fun xs hx => by rw [hn xs hx]; exact hi⟩, fun H h => ⟨xss, h, hn⟩, fun i H v H' hi h y => by
    obtain ⟨T, e1, e2, e3⟩ := y
    exact ⟨T, e1, e2, e3 xss h⟩⟩
theorem kZS {X : Cx} {K : PySem.W.Frag} {e : Expr} {te : TE} {x : Str} {p sp pos tpos : Pos} (h : X.K = K) (hg : Gl X "zip") (hm : X.mg "zip" = none) (he : PE X e te) (hs : starEach [.Starred e sp] X.env = [(true, eval e X.env)] := by rfl) :
    PI X (.Name x tpos) (.Call (.Name "zip" p) [.Starred e sp] [] pos) (iZS K te) := by subst h; exact piZS hg hm he hs
end LW

namespace LW
open PySem PySem.Spec PyProof.Rows L2

/-- the built-in names that the texts use are still the built-in ones -/
structure Bl (mg : Str → Option Value) : Prop where
  len : mg "len" = none
  range : mg "range" = none
  zip : mg "zip" = none
  enumerate : mg "enumerate" = none
  sum : mg "sum" = none
  all : mg "all" = none
  tuple : mg "tuple" = none
  list : mg "list" = none
  isinstance : mg "isinstance" = none
  int : mg "int" = none
  bool : mg "bool" = none
  str : mg "str" = none
  type : mg "type" = none

theorem tupS {K : PySem.W.Frag} {H H' : Hp} {a : Addr} {xs : List V} (e : Same H H') (h : SqT K H a xs) : SqT K H' a xs := by
  rcases h with (h | ⟨o, h⟩) | h
  · exact .inl (.inl (e _ _ h))
  · exact .inl (.inr ⟨o, e _ _ h⟩)
  · exact .inr h
theorem sameNew {H : Hp} {p : Addr} {o : HO} (h : H p = none) : Same H (upd H p o) := fun b x e => by
  rw [upd_ne (ne_of_none e h)]
  exact e
/-- H0 is kept though an object that it does not know changes -/
theorem sameMut {H0 H : Hp} {p : Addr} {o : HO} (s : Same H0 H) (h : H0 p = none) : Same H0 (upd H p o) := fun b x e => by
  rw [upd_ne (ne_of_none e h)]
  exact s b x e

/-! ### sums -/
abbrev Sm := List Int × Int
/-- at v stands the sum s -/
def SumIn (K : PySem.W.Frag) (H : Hp) (v : V) (s : Sm) : Prop := ∃ a t, v = .ref a ∧ SqT K H a [.ref t, .int s.2] ∧ SqT K H t (s.1.map V.int)
theorem SumIn.mono {K : PySem.W.Frag} {H H' : Hp} {v : V} {s : Sm} (e : Same H H') (h : SumIn K H v s) : SumIn K H' v s := by
  obtain ⟨a, t, rfl, h1, h2⟩ := h
  exact ⟨a, t, rfl, tupS e h1, tupS e h2⟩
def dot : List Int → List Int → Int
  | a :: r, b :: t => a * b + dot r t
  | _, _ => 0
def val (s : Sm) (xs : List Int) : Int := s.2 + dot s.1 xs
/-- below 2 ^ n in size -/
def Wd (n : Nat) (i : Int) : Prop := i.natAbs < 2 ^ n
theorem Wd.mono {n m : Nat} {i : Int} (h : Wd n i) (l : n ≤ m) : Wd m i := Nat.lt_of_lt_of_le h (Nat.pow_le_pow_right (by decide) l)
theorem Wd.mulOk {n m : Nat} {i j : Int} (h : Wd n i) (h' : Wd m j) (a : 0 < n) (b : 0 < m) (l : n + m ≤ 1000000) : CMulW i j := wide_mul h h' a b l
theorem Wd.mul {n m : Nat} {i j : Int} (h : Wd n i) (h' : Wd m j) : Wd (n + m) (i * j) := wide_lt h h'
theorem Wd.add {n : Nat} {i j : Int} (h : Wd n i) (h' : Wd n j) : Wd (n + 1) (i + j) := by
  have a : i.natAbs < 2 ^ n := h
  have b : j.natAbs < 2 ^ n := h'
  show (i + j).natAbs < 2 ^ (n + 1)
  rw [Nat.pow_succ]
  omega

/-- zipped lists of ints -/
theorem dot_take {a b : List Int} {i : Nat} {x y : Int} (ha : a[i]? = some x) (hb : b[i]? = some y) : dot (a.take (i + 1)) (b.take (i + 1)) = dot (a.take i) (b.take i) + x * y := by
  induction a generalizing b i with
  | nil => simp at ha
  | cons p r ih =>
    cases b with
    | nil => simp at hb
    | cons q t =>
      cases i with
      | zero =>
        simp at ha hb
        subst ha hb
        simp [dot]
      | succ i =>
        have e := ih (b := t) (i := i) (by simpa using ha) (by simpa using hb)
        simp only [List.take_succ_cons, dot]
        rw [e]
        omega

/-! ### comprehensions that fill a list -/
/-- tuples (and what is locked) stand as they stood -/
def TS (H H' : Hp) : Prop := ∀ a, (∀ xs, H a = some (.tup xs) → H' a = some (.tup xs)) ∧ ∀ o u, H a = some (.frz o u) → H' a = some (.frz o u)
theorem TS.refl (H : Hp) : TS H H := fun _ => ⟨fun _ h => h, fun _ _ h => h⟩
theorem TS.trans {H H1 H2 : Hp} (a : TS H H1) (b : TS H1 H2) : TS H H2 := fun c => ⟨fun xs h => (b c).1 xs ((a c).1 xs h), fun o u h => (b c).2 o u ((a c).2 o u h)⟩
theorem tsOf {H H' : Hp} (e : Same H H') : TS H H' := fun a => ⟨fun _ h => e a _ h, fun _ _ h => e a _ h⟩
theorem tsLst {H : Hp} {D : Addr} {xs ys : List V} (h : H D = some (.lst xs)) : TS H (upd H D (.lst ys)) := fun a => by
  by_cases e : a = D
  · subst e
    exact ⟨fun _ q => (by rw [h] at q; cases q), fun _ _ q => (by rw [h] at q; cases q)⟩
  · exact ⟨fun _ q => by rw [upd_ne e]; exact q, fun _ _ q => by rw [upd_ne e]; exact q⟩
theorem tsTup {K : PySem.W.Frag} {H H' : Hp} {a : Addr} {xs : List V} (e : TS H H') (h : SqT K H a xs) : SqT K H' a xs := by
  rcases h with (h | ⟨o, h⟩) | h
  · exact .inl (.inl ((e a).1 _ h))
  · exact .inl (.inr ⟨o, (e a).2 _ _ h⟩)
  · exact .inr h
theorem tsSum {K : PySem.W.Frag} {H H' : Hp} {v : V} {s : Sm} (e : TS H H') (h : SumIn K H v s) : SumIn K H' v s := by
  obtain ⟨a, t, rfl, h1, h2⟩ := h
  exact ⟨a, t, rfl, tsTup e h1, tsTup e h2⟩
def Stable (R : Nat → V → Hp → Prop) : Prop := ∀ j y H H', TS H H' → R j y H → R j y H'
/-- i items made, each as R says, H0 kept -/
def Made (H0 : Hp) (D : Addr) (R : Nat → V → Hp → Prop) (i : Nat) (H : Hp) : Prop :=
  ∃ ys : List V, ys.length = i ∧ H D = some (.lst ys) ∧ Same H0 H ∧ ∀ j y, ys[j]? = some y → R j y H
theorem made0 {H0 : Hp} {D : Addr} {R : Nat → V → Hp → Prop} (h : H0 D = none) : Made H0 D R 0 (upd H0 D (.lst [])) :=
  ⟨[], rfl, upd_same, sameNew h, fun j y e => by simp at e⟩
theorem Made.push {H0 H H4 : Hp} {D : Addr} {R : Nat → V → Hp → Prop} {i : Nat} {y : V} (m : Made H0 D R i H) (hD : H0 D = none) (st : Stable R) (hi : i < 100000) (e : Same H H4) (r : R i y H4) :
    ∃ acc, H4 D = some (.lst acc) ∧ acc.length < sizeLine ∧ Made H0 D R (i + 1) (upd H4 D (.lst (acc ++ [y]))) := by
  obtain ⟨ys, rfl, h1, h2, h3⟩ := m
  have h4 : H4 D = some (.lst ys) := e _ _ h1
  refine ⟨ys, h4, Nat.lt_of_lt_of_le hi (by decide), ys ++ [y], by simp, upd_same, sameMut (Same.trans h2 e) hD, fun j z hz => ?_⟩
  have t : TS H4 (upd H4 D (.lst (ys ++ [y]))) := tsLst h4
  by_cases hj : j < ys.length
  · rw [List.getElem?_append_left hj] at hz
    exact st _ _ _ _ (TS.trans (tsOf e) t) (h3 j z hz)
  · rw [List.getElem?_append_right (by omega)] at hz
    have hz' : j - ys.length = 0 := by
      cases q : j - ys.length with
      | zero => rfl
      | succ n => rw [q] at hz; simp at hz
    rw [hz'] at hz
    have ez : y = z := by simpa using hz
    have ej : j = ys.length := by omega
    subst ez ej
    exact st _ _ _ _ t r
theorem Made.same {H0 H : Hp} {D : Addr} {R : Nat → V → Hp → Prop} {i : Nat} (m : Made H0 D R i H) : Same H0 H := by
  obtain ⟨_, _, _, h, _⟩ := m
  exact h
/-- items that are ints told by a function -/
def RI (f : Nat → Int) : Nat → V → Hp → Prop := fun j y _ => y = .int (f j)
theorem stRI (f : Nat → Int) : Stable (RI f) := fun _ _ _ _ _ h => h
theorem madeRI {H0 H : Hp} {D : Addr} {f : Nat → Int} {n : Nat} (m : Made H0 D (RI f) n H) : H D = some (.lst (((List.range n).map f).map V.int)) ∧ Same H0 H := by
  obtain ⟨ys, e, h1, h2, h3⟩ := m
  refine ⟨?_, h2⟩
  rw [h1]
  congr 2
  apply List.ext_getElem?
  intro j
  by_cases hj : j < n
  · have hl : j < ys.length := by omega
    have q := h3 j ys[j] (List.getElem?_eq_getElem hl)
    rw [List.getElem?_eq_getElem hl, q]
    simp [hj]
  · rw [List.getElem?_eq_none (by omega), List.getElem?_eq_none (by simp; omega)]
/-- items that are ints with a property -/
def RP (p : Nat → Int → Prop) : Nat → V → Hp → Prop := fun j y _ => ∃ i, y = .int i ∧ p j i
theorem stRP (p : Nat → Int → Prop) : Stable (RP p) := fun _ _ _ _ _ h => h
theorem madeRP {H0 H : Hp} {D : Addr} {p : Nat → Int → Prop} {n : Nat} (m : Made H0 D (RP p) n H) : ∃ ns : List Int, ns.length = n ∧ H D = some (.lst (ns.map V.int)) ∧ Same H0 H ∧ ∀ (j : Nat) (i : Int), ns[j]? = some i → p j i := by
  obtain ⟨ys, e, h1, h2, h3⟩ := m
  have key : ∀ (l : List V) (k : Nat), (∀ j y, l[j]? = some y → ∃ i, y = .int i ∧ p (k + j) i) → ∃ ns : List Int, l = ns.map V.int ∧ ∀ (j : Nat) (i : Int), ns[j]? = some i → p (k + j) i := by
    intro l
    induction l with
    | nil => exact fun k _ => ⟨[], rfl, fun j i h => by simp at h⟩
    | cons y r ih =>
      intro k h
      obtain ⟨i, e1, p1⟩ := h 0 y rfl
      obtain ⟨ns, e2, p2⟩ := ih (k + 1) fun j z hz => by
        have q := h (j + 1) z (by simpa using hz)
        rw [show k + 1 + j = k + (j + 1) by omega]
        exact q
      refine ⟨i :: ns, by rw [e1, e2]; rfl, fun j z hz => ?_⟩
      cases j with
      | zero =>
        have : i = z := by simpa using hz
        subst this
        exact p1
      | succ j =>
        have q := p2 j z (by simpa using hz)
        rw [show k + (j + 1) = k + 1 + j by omega]
        exact q
  obtain ⟨ns, rfl, hp⟩ := key ys 0 fun j y hy => by
    obtain ⟨i, q1, q2⟩ := h3 j y hy
    exact ⟨i, q1, by rw [Nat.zero_add]; exact q2⟩
  refine ⟨ns, by simpa using e, h1, h2, fun j i h => ?_⟩
  have q := hp j i h
  rwa [Nat.zero_add] at q

theorem dot_sum (a b : List Int) (h : a.length = b.length) : dot a b = ((List.range a.length).map fun i => (a[i]?.getD 0) * (b[i]?.getD 0)).sum := by
  induction a generalizing b with
  | nil => rfl
  | cons x r ih =>
    cases b with
    | nil => simp at h
    | cons y t =>
      have e := ih t (by simpa using h)
      rw [List.length_cons, List.range_succ_eq_map, List.map_cons, List.sum_cons, List.map_map]
      simp only [dot, e]
      congr 1

/-! ### targets within a comprehension: without defaults, so that what is wanted is known first -/
theorem pgN {X : Cx} {i : Nat} {x : Str} {pos : Pos} (hN : X.N.Nodup) (hi : X.N[i]? = some x) (hx : Loc X.env.scope x) (hf : X.fn x = true ∨ X.env.scope.names.lookup x = some .local) : PG X (.Name x pos) (gName i) := pg_name hN hi hx hf
theorem pgT2 {X : Cx} {K : PySem.W.Frag} {e1 e2 : Expr} {k : Nat} {pos : Pos} {t u : TG} (hK : X.K = K) (h1 : PG X e1 t) (h2 : PG X e2 u) (hc : X.calm = true)
    (a : (assignEach [e1, e2] X.env).map (·.2) = assign e1 X.env :: (assignEach [e2] X.env).map (·.2)) (b : (assignEach [e2] X.env).map (·.2) = assign e2 X.env :: (assignEach [] X.env).map (·.2))
    (hn : (assignEach [e1, e2] X.env).length = 2) (hst : (assignEach [e1, e2] X.env).findIdx? (·.1) = none) : PG X (.Tuple [e1, e2] k pos) (gTup K 2 (gCons t (gCons u gNil))) := by
  subst hK
  exact pg_tup hc (pgs_cons h1 (pgs_cons h2 pgs_nil b) a) hn hst

/-! ### the rules with the written part named -/
section
variable {X : Cx} {K : PySem.W.Frag}
def rLenK (K : PySem.W.Frag) : List V → Hp → VK → Prop := fun xs H Q => ∃ p ys, xs = [.ref p] ∧ (SqL K H p ys ∨ SqT K H p ys) ∧ Q (.int (ys.length : Nat)) H
def rListK (K : PySem.W.Frag) : List V → Hp → VK → Prop := fun xs H Q => ∃ p ys, xs = [.ref p] ∧ (SqL K H p ys ∨ SqT K H p ys) ∧ ∀ l, H l = none → Q (.ref l) (upd H l (.lst ys))
def rTupK (K : PySem.W.Frag) : List V → Hp → VK → Prop := fun xs H Q => ∃ p ys, xs = [.ref p] ∧ ((SqL K H p ys ∧ ∀ l, H l = none → Q (.ref l) (upd H l (.tup ys))) ∨ (SqT K H p ys ∧ Q (.ref p) H))
theorem kLen (h : X.K = K) : CallR X (.builtin "len") (rLenK K) := by subst h; exact call_len_seq
theorem kList (h : X.K = K) : CallR X (.type "list") (rListK K) := by subst h; exact call_list_of
theorem kTup (h : X.K = K) : CallR X (.type "tuple") (rTupK K) := by subst h; exact call_tuple_of
theorem kSum (h : X.K = K) (hc : X.calm = true) : CallR X (.builtin "sum") (rSum K) := by subst h; exact cr_sum hc
theorem kAll (h : X.K = K) (hc : X.calm = true) : CallR X (.builtin "all") (rAll K) := by subst h; exact cr_all hc
theorem kIsi (h : X.K = K) : CallR X (.builtin "isinstance") (rIsi K) := by subst h; exact call_isi
theorem kIxL (h : X.K = K) : IxR X (rIxL K) := by subst h; exact ix_list
theorem kIxT (h : X.K = K) : IxR X (rIxT K) := by subst h; exact ix_tup
theorem kSlL (h : X.K = K) : SlR X (rSlL K) := by subst h; exact sl_list
theorem kSlT (h : X.K = K) : SlR X (rSlA K) := by subst h; exact sl_tupA
theorem kCatT (h : X.K = K) : OpR X (binaryOp .Add) (rCatA K) := by subst h; exact op_catA
theorem kRepT (h : X.K = K) : OpR X (binaryOp .Mult) (rRepT K) := by subst h; exact op_repT
theorem kIn (h : X.K = K) : OpR X (compareOp .In) (rIn K false) := by subst h; exact op_in_seq
theorem kNotIn (h : X.K = K) : OpR X (compareOp .NotIn) (rIn K true) := by subst h; exact op_notIn_seq
theorem kEqD (h : X.K = K) (hu : X.A.units + 64 < cLine) : OpR X (compareOp .Eq) (rEqD K) := by subst h; exact op_eqD hu
theorem kNeD (h : X.K = K) (hu : X.A.units + 64 < cLine) : OpR X (compareOp .NotEq) (rNeD K) := by subst h; exact op_neD hu
theorem kList_ {tg l : Expr} {tl : TE} (h : X.K = K) (hl : PE X l tl) : PI X tg l (iList K tl) := by subst h; exact pi_list hl
theorem kTup_ {tg l : Expr} {tl : TE} (h : X.K = K) (hl : PE X l tl) : PI X tg l (iTup K tl) := by subst h; exact pi_tup hl
theorem kZ {e e2 : Expr} {ta : TA} {p pos tpos : Pos} {elts : List Expr} {kk : Nat} (h : X.K = K) (b1 b2 : Bool) (hg : Gl X "zip") (hm : X.mg "zip" = none) (ha : PA X [e, e2] ta)
    (hs : starEach [e, e2] X.env = (false, eval e X.env) :: starEach [e2] X.env := by rfl) (hpl : (backTo pos (starEach [e2] X.env)).any (·.1) = false := by rfl) :
    PI X (.Tuple elts kk tpos) (.Call (.Name "zip" p) [e, e2] [] pos) (iZ K ta b1 b2) := by subst h; exact piZ b1 b2 hg hm ha hs hpl
theorem kE {e : Expr} {ta : TA} {p pos tpos : Pos} {elts : List Expr} {kk : Nat} (h : X.K = K) (b : Bool) (hg : Gl X "enumerate") (hm : X.mg "enumerate" = none) (ha : PA X [e] ta) (hs : starEach [e] X.env = [(false, eval e X.env)] := by rfl) :
    PI X (.Tuple elts kk tpos) (.Call (.Name "enumerate" p) [e] [] pos) (iE K ta b) := by subst h; exact piE b hg hm ha hs
theorem kT2 {e1 e2 : Expr} {k : Nat} {pos : Pos} {t u : TG} (h : X.K = K) (hc : X.calm = true) (h1 : PG X e1 t) (h2 : PG X e2 u)
    (a : (assignEach [e1, e2] X.env).map (·.2) = assign e1 X.env :: (assignEach [e2] X.env).map (·.2) := by rfl) (b : (assignEach [e2] X.env).map (·.2) = assign e2 X.env :: (assignEach [] X.env).map (·.2) := by rfl)
    (hn : (assignEach [e1, e2] X.env).length = 2 := by rfl) (hst : (assignEach [e1, e2] X.env).findIdx? (·.1) = none := by rfl) : PG X (.Tuple [e1, e2] k pos) (gTup K 2 (gCons t (gCons u gNil))) := by
  subst h
  exact pg_tup hc (pgs_cons h1 (pgs_cons h2 pgs_nil b) a) hn hst
theorem kApp (h : X.K = K) {o : Expr} {es : List Expr} {e : Expr} {to : TE} {t : TA} {apos cpos : Pos} (ho : PE X o to) (ha : PA X [e] t) (hh : PE X (.Call (.Attribute o "append" apos) [e] [] cpos) (tBM X.K "list" rAppend to t)) : PE X (.Call (.Attribute o "append" apos) [e] [] cpos) (tBM K "list" rAppend to t) := by subst h; exact hh
end

theorem mapAt {ns : List Int} {i : Nat} {x : V} (e : (ns.map V.int)[i]? = some x) (h : i < ns.length) : x = .int ns[i] := by
  rw [List.getElem?_map, List.getElem?_eq_getElem h] at e
  exact (Option.some.inj e).symm
theorem intAt {ns : List Int} {i : Nat} (h : i < ns.length) : (ns.map V.int)[i]? = some (.int ns[i]) := by
  rw [List.getElem?_map, List.getElem?_eq_getElem h]
  rfl

theorem lcYes {σ : L2.St} {H : Hp} {A B : Hp → Prop} (h : A H) : tYes σ H (fun b H3 => if b = true then A H3 else B H3) := by
  show (if true = true then A H else B H)
  exact iteT h

theorem tyTup {K : PySem.W.Frag} {H : Hp} {a : Addr} {xs : List V} (h : SqT K H a xs) : TyX K H (.ref a) (.type "tuple") := by
  rcases h with (h | ⟨o, h⟩) | ⟨o, its, n, h, hc, _⟩
  · exact .base (.tup h)
  · exact .fTuple h
  · exact .kTuple h hc
theorem tyLst {K : PySem.W.Frag} {H : Hp} {a : Addr} {xs : List V} (h : SqL K H a xs) : TyX K H (.ref a) (.type "list") := by
  rcases h with (h | ⟨o, h⟩) | ⟨o, its, n, h, hc, _⟩
  · exact .base (.lst h)
  · exact .base (.frz h)
  · exact .kList h hc

/-- the list of values vs: the sums ss -/
def SumsIn (K : PySem.W.Frag) (H : Hp) (vs : List V) (ss : List Sm) : Prop := Paired (SumIn K H) vs ss
theorem SumsIn.len {K : PySem.W.Frag} {H : Hp} {vs : List V} {ss : List Sm} (h : SumsIn K H vs ss) : vs.length = ss.length := Paired.length h
theorem sumsAt {K : PySem.W.Frag} {H : Hp} : ∀ {vs : List V} {ss : List Sm} {i : Nat} {v : V} (_ : SumsIn K H vs ss) (_ : vs[i]? = some v), ∃ s, ss[i]? = some s ∧ SumIn K H v s
  | _, _, _, _, .nil, e => by simp at e
  | _, _, 0, _, .cons r _, e => by
    simp at e
    subst e
    exact ⟨_, rfl, r⟩
  | _, _, i + 1, v, .cons _ t, e => by
    obtain ⟨s, h1, h2⟩ := sumsAt (i := i) t (by simpa using e)
    exact ⟨s, by simpa using h1, h2⟩
theorem tsSums {K : PySem.W.Frag} {H H' : Hp} (e : TS H H') {vs : List V} {ss : List Sm} (h : SumsIn K H vs ss) : SumsIn K H' vs ss := Paired.mapP h fun _ _ r => tsSum e r

/-! ### bounds -/
theorem dotWd {n m : Nat} : ∀ {a b : List Int}, (∀ x ∈ a, Wd n x) → (∀ y ∈ b, Wd m y) → Wd (n + m + a.length) (dot a b)
  | [], _, _, _ => by
    show (0 : Int).natAbs < _
    exact Nat.two_pow_pos _
  | _ :: _, [], _, _ => by
    show (0 : Int).natAbs < _
    exact Nat.two_pow_pos _
  | x :: r, y :: t, h, h' => by
    have ih := dotWd (a := r) (b := t) (fun z hz => h z (List.mem_cons_of_mem _ hz)) (fun z hz => h' z (List.mem_cons_of_mem _ hz))
    exact Wd.add (n := n + m + r.length) (Wd.mono (Wd.mul (h x (List.mem_cons_self ..)) (h' y (List.mem_cons_self ..))) (by omega)) ih
theorem sumWd {n : Nat} : ∀ {a : List Int}, (∀ x ∈ a, Wd n x) → Wd (n + a.length) a.sum
  | [], _ => by
    show (0 : Int).natAbs < _
    exact Nat.two_pow_pos _
  | x :: r, h => by
    have ih := sumWd (a := r) fun z hz => h z (List.mem_cons_of_mem _ hz)
    rw [List.sum_cons]
    exact Wd.add (n := n + r.length) (Wd.mono (h x (List.mem_cons_self ..)) (by omega)) ih
theorem valWd {n m : Nat} {s : Sm} {xs : List Int} (h : ∀ x ∈ s.1, Wd n x) (h2 : Wd n s.2) (h' : ∀ y ∈ xs, Wd m y) : Wd (n + m + s.1.length + 1) (val s xs) :=
  Wd.add (Wd.mono h2 (by omega)) (dotWd h h')

/-! ### data -/
def dI (ns : List Int) : List PyData := ns.map PyData.int
def dS (s : Sm) : PyData := .tuple [.tuple (dI s.1), .int s.2]
theorem dpInts {K : PySem.W.Frag} {H : Hp} : ∀ ns : List Int, DpAll K H (ns.map V.int) (dI ns)
  | [] => .nil
  | n :: r => .cons (.int n) (dpInts r)
theorem dpSum {K : PySem.W.Frag} {H : Hp} {v : V} {s : Sm} (h : SumIn K H v s) : Dp K H v (dS s) := by
  obtain ⟨a, t, rfl, h1, h2⟩ := h
  exact .tup h1 (.cons (.tup h2 (dpInts _)) (.cons (.int _) .nil))
theorem dpSums {K : PySem.W.Frag} {H : Hp} : ∀ {vs : List V} {ss : List Sm}, SumsIn K H vs ss → DpAll K H vs (ss.map dS)
  | _, _, .nil => .nil
  | _, _, .cons r t => .cons (dpSum r) (dpSums t)

/-- data that can be laid, at most n deep -/
def Ly (n : Nat) (d : PyData) : Prop := d.canLay0 = true ∧ d.depth ≤ n
def LyA (n : Nat) (ds : List PyData) : Prop := PyData.canLayAll0 ds = true ∧ PyData.depthAll ds ≤ n
theorem Ly.shaped {n : Nat} {d : PyData} (h : Ly n d) (l : n ≤ 64) : SeqAt.shaped d = true := by
  unfold SeqAt.shaped
  rw [h.1, decide_eq_true (Nat.le_trans h.2 l)]
  rfl
theorem Ly.same {n : Nat} {d : PyData} (h : Ly n d) : PyData.eqv d d = true := SeqAt.eqv_refl d h.1
theorem lyInt (i : Int) : Ly 1 (.int i) := ⟨by simp [PyData.canLay0], by simp [PyData.depth]⟩
theorem lyNil (n : Nat) : LyA n [] := ⟨by simp [PyData.canLayAll0], by simp [PyData.depthAll]⟩
theorem lyCons {n : Nat} {d : PyData} {ds : List PyData} (h : Ly n d) (h' : LyA n ds) : LyA n (d :: ds) := by
  refine ⟨?_, ?_⟩
  · simp [PyData.canLayAll0, h.1, h'.1]
  · have a := h.2
    have b := h'.2
    simp [PyData.depthAll]
    omega
theorem lyTup {n : Nat} {ds : List PyData} (h : LyA n ds) : Ly (n + 1) (.tuple ds) := by
  refine ⟨by simp [PyData.canLay0, h.1], ?_⟩
  have b := h.2
  simp [PyData.depth]
  omega
theorem lyLst {n : Nat} {ds : List PyData} (h : LyA n ds) : Ly (n + 1) (.list ds) := by
  refine ⟨by simp [PyData.canLay0, h.1], ?_⟩
  have b := h.2
  simp [PyData.depth]
  omega
theorem Ly.up {n m : Nat} {d : PyData} (h : Ly n d) (l : n ≤ m) : Ly m d := ⟨h.1, Nat.le_trans h.2 l⟩
theorem lyInts : ∀ ns : List Int, LyA 1 (dI ns)
  | [] => lyNil 1
  | n :: r => lyCons (lyInt n) (lyInts r)
theorem lySum (s : Sm) : Ly 3 (dS s) := lyTup (lyCons (lyTup (lyInts _)) (lyCons ((lyInt _).up (by decide)) (lyNil _)))
theorem lySums : ∀ ss : List Sm, LyA 3 (ss.map dS)
  | [] => lyNil 3
  | s :: r => lyCons (lySum s) (lySums r)

theorem pairedApp {α β : Type} {R : α → β → Prop} : ∀ {a c : List α} {b d : List β}, Paired R a b → Paired R c d → Paired R (a ++ c) (b ++ d)
  | _, _, _, _, .nil, h => h
  | _, _, _, _, .cons r t, h => .cons r (pairedApp t h)
end LW

namespace LW
open PySem PySem.Spec PyProof.Rows L2
def topS (i : Nat) : Stmt := PySem.Challenge.pw_loopwords_k01_sums.main.body.getD i (.Pass ⟨0, 0, 0, 0⟩)

local macro_rules | `(tactic| walk_at "go1") => `(tactic| first
  | refine ⟨_, rfl, ?_⟩
  | refine ⟨_, _, rfl, rfl, ?_⟩
  | refine ⟨show (0 : Int) < _ from by omega, ?_⟩
  | refine ⟨show CMul _ _ from by first | exact .inl ⟨by omega, by omega⟩ | exact .inr ⟨by omega, by omega⟩, ?_⟩
  | refine ⟨show CDiv _ _ from ⟨by omega, by omega⟩, ?_⟩)
local macro_rules | `(tactic| walk_at "go") => `(tactic| repeat walk_at "go1")

section
variable {P : Program} {w : World} {K : PySem.W.Frag} {mg : Str → Option Value} {base : Heap}

abbrev s__law_at : Stmt := topS 5
theorem sc__law_at : FnScope ["_law_script", "_law_k", "_law_cell"] ["_law_script", "_law_k"] (defScope s__law_at) := ⟨rfl, rfl, rfl, by decide +kernel, rfl, by decide +kernel, by decide +kernel⟩

def spAt (K : PySem.W.Frag) : Sp := fun vs H Q _ => ∃ (a : Addr) (ns : List Int) (k : Int), vs = [.ref a, .int k] ∧ SqL K H a (ns.map V.int) ∧ ns.length ≤ 63 ∧ 0 ≤ k ∧ k ≤ 1000 ∧ ∀ i : Int, 0 ≤ i → i < 1000003 → Q (.int i) H
theorem ok__law_at {f : Addr} {fd : FuncData} {k : Nat} (F : Fun K "_law_at" "_law_at" s__law_at f fd) (B : Bl mg) : FnOk P w K mg base CX0 (k + 1) f fd ["_law_script", "_law_k"] (spAt K) := by
  refine F.ok sc__law_at (fun vs H Q E h => ?_) (fun cdv A outer s H vs Q E hr h => ?_)
  · obtain ⟨a, ns, k, rfl, _⟩ := h
    rfl
  obtain ⟨a, ns, k, rfl, hS, h63, k0, k1, q⟩ := h
  refine ⟨_, (pss_cons (ps_set (i := 2) sc__law_at.nd rfl (.inl rfl) pe_int)
    (pss_cons (ps_if (pt_cmpR op_gt (pe_callB (kLen (K := K) rfl) (by rfl) B.len PySem.boot_len (pa_cons (pv 0) pa_nil)) pe_int (nomark _))
      (pss_one (ps_set (i := 2) sc__law_at.nd rfl (.inl rfl) (pe_ix (kIxL (K := K) rfl) (pv 0) (pe_op op_mod (pv 1) (pe_callB (kLen (K := K) rfl) (by rfl) B.len PySem.boot_len (pa_cons (pv 0) pa_nil))) (fun _ _ => rfl))))
      pss_nil)
    (pss_one (ps_ret (pe_op op_mod (pe_op op_mul (pe_op op_add (pv 2) (pe_op op_mul pe_int (pv 1))) pe_int) pe_int))))), ?_⟩
  walk_at "go"
  refine ⟨_, _, rfl, .inl hS, ?_⟩
  walk_at "go"
  have lm : (ns.map V.int).length = ns.length := List.length_map _
  refine ite2 (fun c => ?_) (fun c => ?_)
  · have c' : (0 : Int) < ((ns.map V.int).length : Int) := of_decide_eq_true c
    walk_at "go"
    refine ⟨_, _, rfl, .inl hS, ?_⟩
    walk_at "go"
    have hm0 : 0 ≤ k % ((ns.map V.int).length : Int) := Int.emod_nonneg _ (by omega)
    have hm1 : k % ((ns.map V.int).length : Int) < ((ns.map V.int).length : Int) := Int.emod_lt_of_pos _ c'
    obtain ⟨j, hj⟩ : ∃ j : Nat, k % ((ns.map V.int).length : Int) = (j : Int) := ⟨(k % ((ns.map V.int).length : Int)).toNat, by omega⟩
    have hjl : j < ns.length := by omega
    refine ⟨_, _, _, .int ns[j], rfl, rfl, hS, ?_, ?_⟩
    · rw [hj]
      exact atI_nat (by rw [List.getElem?_map, List.getElem?_eq_getElem hjl]; rfl)
    walk_at "go"
    exact q _ (Int.emod_nonneg _ (by decide)) (Int.emod_lt_of_pos _ (by decide))
  · walk_at "go"
    exact q _ (Int.emod_nonneg _ (by decide)) (Int.emod_lt_of_pos _ (by decide))

abbrev s_value : Stmt := topS 1
theorem sc_value : FnScope ["one", "filling", "numbers", "last", "number", "held"] ["one", "filling"] (defScope s_value) := ⟨rfl, rfl, rfl, by decide +kernel, rfl, by decide +kernel, by decide +kernel⟩

def spValue (K : PySem.W.Frag) : Sp := fun vs H Q _ => ∃ (v : V) (f : Addr) (s : Sm) (xs : List Int), vs = [v, .ref f] ∧ SumIn K H v s ∧ SqL K H f (xs.map V.int) ∧ s.1.length = xs.length ∧ xs.length ≤ 1000 ∧
  (∀ n ∈ s.1, Wd 400000 n) ∧ (∀ x ∈ xs, Wd 400000 x) ∧ ∀ H', Same H H' → Q (.int (val s xs)) H'
def spValueA (K : PySem.W.Frag) : Sp := fun vs H Q _ => ∃ (v : V) (f : Addr) (s : Sm) (xs : List Int), vs = [v, .ref f] ∧ SumIn K H v s ∧ (SqL K H f (xs.map V.int) ∨ SqT K H f (xs.map V.int)) ∧ s.1.length = xs.length ∧ xs.length ≤ 1000 ∧
  (∀ n ∈ s.1, Wd 400000 n) ∧ (∀ x ∈ xs, Wd 400000 x) ∧ ∀ H', Same H H' → Q (.int (val s xs)) H'
theorem ok_value {f : Addr} {fd : FuncData} {k : Nat} (F : Fun K "value" "value" s_value f fd) (B : Bl mg) : FnOk P w K mg base CX0 (k + 1) f fd ["one", "filling"] (spValueA K) := by
  refine F.ok sc_value (fun vs H Q E h => ?_) (fun cdv A outer s H vs Q E hr h => ?_)
  · obtain ⟨v, f, s, xs, rfl, _⟩ := h
    rfl
  obtain ⟨v, f, ⟨ns, m⟩, xs, rfl, ⟨a, t, rfl, h1, h2⟩, hF, hl, hz, w1, w2, q⟩ := h
  dsimp only at h1 h2 hl w1 w2 q
  rcases hF with hF | hF
  · refine ⟨_, (pss_cons (ps_asg (pv 0) (kT2 (K := K) rfl rfl (pg_name (i := 2) sc_value.nd rfl (.inl rfl)) (pg_name (i := 3) sc_value.nd rfl (.inl rfl))))
    (pss_one (ps_ret (pe_op op_add (pv 3) (pe_callB (kSum (K := K) rfl rfl) (by rfl) B.sum (by decide +kernel) (pa_cons (pe_lc (own := [("number", 4), ("held", 5)]) rfl sc_value.nd (kZ (K := K) rfl true false (by rfl) B.zip (pa_cons (pv 2) (pa_cons (pv 1) pa_nil))) (blkOk_by (own := [("number", 4), ("held", 5)]) (N := ["one", "filling", "numbers", "last", "number", "held"]) (sc := defScope s_value) (by decide +kernel)) (fun _ _ _ _ _ => (pgT2 (K := K) rfl (pgN (i := 4) sc_value.nd rfl (.inl rfl) (.inr rfl)) (pgN (i := 5) sc_value.nd rfl (.inl rfl) (.inr rfl)) rfl (by rfl) (by rfl) (by rfl) (by rfl))) (fun _ _ _ _ _ => pts_nil) (fun _ _ _ _ _ => (pe_op op_mulW (pv 4) (pv 5)))) pa_nil)))))), ?_⟩
    refine ⟨_, rfl, _, _, rfl, h1, rfl, _, _, rfl, _, _, rfl, rfl, ?_⟩
    refine ⟨_, rfl, _, rfl, _, rfl, _, _, _, _, rfl, h2, hF, fun D nD => ?_⟩
    refine lc_it (walkZ (n := ns.length) (by simp [hl])) (Made H D (RI fun i => (ns[i]?.getD 0) * (xs[i]?.getD 0))) (made0 nD) (fun i H1 _ p => ⟨tupS p.same h2, Same.seq p.same hF⟩) (fun i x H1 H2 hi p y => ?_) (fun H1 p => ?_)
    · obtain ⟨T, x1, x2, rfl, nT, rfl, e1, e2⟩ := y
      have i1 : i < xs.length := by omega
      have f1 := mapAt e1 hi
      have f2 := mapAt e2 i1
      subst f1 f2
      refine ⟨_, _, rfl, .inl (.inl upd_same), rfl, _, _, rfl, _, _, rfl, rfl, rfl, ?_⟩
      refine lcYes ?_
      refine ⟨_, rfl, _, rfl, _, _, rfl, rfl, Wd.mulOk (w1 _ (List.getElem_mem _)) (w2 _ (List.getElem_mem _)) (by decide) (by decide) (by decide), ?_⟩
      exact p.push nD (stRI _) (by omega) (sameNew nT) (by simp [RI, hi, i1])
    · obtain ⟨g, sm⟩ := madeRI p
      refine ⟨_, _, rfl, .of g, _, _, rfl, rfl, ?_⟩
      rw [← dot_sum ns xs hl]
      exact q _ sm
  · refine ⟨_, (pss_cons (ps_asg (pv 0) (kT2 (K := K) rfl rfl (pg_name (i := 2) sc_value.nd rfl (.inl rfl)) (pg_name (i := 3) sc_value.nd rfl (.inl rfl))))
    (pss_one (ps_ret (pe_op op_add (pv 3) (pe_callB (kSum (K := K) rfl rfl) (by rfl) B.sum (by decide +kernel) (pa_cons (pe_lc (own := [("number", 4), ("held", 5)]) rfl sc_value.nd (kZ (K := K) rfl true true (by rfl) B.zip (pa_cons (pv 2) (pa_cons (pv 1) pa_nil))) (blkOk_by (own := [("number", 4), ("held", 5)]) (N := ["one", "filling", "numbers", "last", "number", "held"]) (sc := defScope s_value) (by decide +kernel)) (fun _ _ _ _ _ => (pgT2 (K := K) rfl (pgN (i := 4) sc_value.nd rfl (.inl rfl) (.inr rfl)) (pgN (i := 5) sc_value.nd rfl (.inl rfl) (.inr rfl)) rfl (by rfl) (by rfl) (by rfl) (by rfl))) (fun _ _ _ _ _ => pts_nil) (fun _ _ _ _ _ => (pe_op op_mulW (pv 4) (pv 5)))) pa_nil)))))), ?_⟩
    refine ⟨_, rfl, _, _, rfl, h1, rfl, _, _, rfl, _, _, rfl, rfl, ?_⟩
    refine ⟨_, rfl, _, rfl, _, rfl, _, _, _, _, rfl, h2, hF, fun D nD => ?_⟩
    refine lc_it (walkZ (n := ns.length) (by simp [hl])) (Made H D (RI fun i => (ns[i]?.getD 0) * (xs[i]?.getD 0))) (made0 nD) (fun i H1 _ p => ⟨tupS p.same h2, tupS p.same hF⟩) (fun i x H1 H2 hi p y => ?_) (fun H1 p => ?_)
    · obtain ⟨T, x1, x2, rfl, nT, rfl, e1, e2⟩ := y
      have i1 : i < xs.length := by omega
      have f1 := mapAt e1 hi
      have f2 := mapAt e2 i1
      subst f1 f2
      refine ⟨_, _, rfl, .inl (.inl upd_same), rfl, _, _, rfl, _, _, rfl, rfl, rfl, ?_⟩
      refine lcYes ?_
      refine ⟨_, rfl, _, rfl, _, _, rfl, rfl, Wd.mulOk (w1 _ (List.getElem_mem _)) (w2 _ (List.getElem_mem _)) (by decide) (by decide) (by decide), ?_⟩
      exact p.push nD (stRI _) (by omega) (sameNew nT) (by simp [RI, hi, i1])
    · obtain ⟨g, sm⟩ := madeRI p
      refine ⟨_, _, rfl, .of g, _, _, rfl, rfl, ?_⟩
      rw [← dot_sum ns xs hl]
      exact q _ sm

abbrev s_opposite : Stmt := topS 2
theorem sc_opposite : FnScope ["one", "numbers", "last", "number"] ["one"] (defScope s_opposite) := ⟨rfl, rfl, rfl, by decide +kernel, rfl, by decide +kernel, by decide +kernel⟩

def spOpp (K : PySem.W.Frag) : Sp := fun vs H Q _ => ∃ (v : V) (s : Sm), vs = [v] ∧ SumIn K H v s ∧ s.1.length ≤ 1000 ∧ ∀ H' v', Same H H' → SumIn K H' v' (s.1.map (fun n => -n), 1 - s.2) → Q v' H'
theorem ok_opposite {f : Addr} {fd : FuncData} {k : Nat} (F : Fun K "opposite" "opposite" s_opposite f fd) (B : Bl mg) : FnOk P w K mg base CX0 (k + 1) f fd ["one"] (spOpp K) := by
  refine F.ok sc_opposite (fun vs H Q E h => ?_) (fun cdv A outer s H vs Q E hr h => ?_)
  · obtain ⟨v, s, rfl, _⟩ := h
    rfl
  obtain ⟨v, ⟨ns, m⟩, rfl, ⟨a, t, rfl, h1, h2⟩, hz, q⟩ := h
  dsimp only at h1 h2 hz q
  refine ⟨_, (pss_cons (ps_asg (pv 0) (kT2 (K := K) rfl rfl (pg_name (i := 1) sc_opposite.nd rfl (.inl rfl)) (pg_name (i := 2) sc_opposite.nd rfl (.inl rfl))))
    (pss_one (ps_ret (pe_tup (pa_cons (pe_callTy (kTup (K := K) rfl) (by rfl) B.tuple (by decide +kernel) (pa_cons (pe_lc (own := [("number", 3)]) rfl sc_opposite.nd (kTup_ (K := K) rfl (pv 1)) (blkOk_by (own := [("number", 3)]) (N := ["one", "numbers", "last", "number"]) (sc := defScope s_opposite) (by decide +kernel)) (fun _ _ _ _ _ => (pgN (i := 3) sc_opposite.nd rfl (.inl rfl) (.inr rfl))) (fun _ _ _ _ _ => pts_nil) (fun _ _ _ _ _ => (pe_un un_neg (pv 3)))) pa_nil)) (pa_cons (pe_op op_sub pe_int (pv 2)) pa_nil)))))), ?_⟩
  refine ⟨_, rfl, _, _, rfl, h1, rfl, _, _, rfl, _, _, rfl, rfl, ?_⟩
  refine ⟨_, rfl, _, rfl, ⟨_, h2⟩, fun D nD => ?_⟩
  refine lc_it walk_tup (Made H D (RI fun i => -(ns[i]?.getD 0))) (made0 nD) (fun i H1 _ p => tupS p.same h2) (fun i x H1 H2 hi p y => ?_) (fun H1 p => ?_)
  · obtain ⟨rfl, e1⟩ := y
    have hi' : i < ns.length := by simpa using hi
    have f1 := mapAt e1 hi'
    subst f1
    refine ⟨rfl, ?_⟩
    refine lcYes ?_
    refine ⟨_, rfl, _, rfl, ?_⟩
    exact p.push nD (stRI _) (by omega) (Same.refl _) (by simp [RI, hi'])
  · obtain ⟨g, sm⟩ := madeRI p
    refine ⟨_, _, rfl, .inl ⟨.of g, fun T nT => ⟨_, rfl, _, _, rfl, rfl, by show 2 ≤ sizeLine; decide, fun U nU => ?_⟩⟩⟩
    refine q _ _ (Same.trans sm (Same.trans (sameNew nT) (sameNew nU))) ⟨U, T, rfl, .of upd_same, ?_⟩
    refine tupS (sameNew nU) (.of ?_)
    rw [upd_same, List.length_map]
    congr 3
    apply List.ext_getElem?
    intro j
    by_cases hj : j < ns.length
    · simp [hj]
    · simp [hj]

end

end LW

namespace LW
open PySem PySem.Spec PyProof.Rows L2
local macro_rules | `(tactic| walk_at "go1") => `(tactic| first
  | refine ⟨_, rfl, ?_⟩
  | refine ⟨_, _, rfl, rfl, ?_⟩
  | refine ⟨show (0 : Int) < _ from by omega, ?_⟩
  | refine ⟨show CMul _ _ from by first | exact .inl ⟨by omega, by omega⟩ | exact .inr ⟨by omega, by omega⟩, ?_⟩
  | refine ⟨show CDiv _ _ from ⟨by omega, by omega⟩, ?_⟩)
local macro_rules | `(tactic| walk_at "go") => `(tactic| repeat walk_at "go1")

section
variable {P : Program} {w : World} {K : PySem.W.Frag} {mg : Str → Option Value} {base : Heap}

abbrev s__law_number : Stmt := topS 8
theorem sc__law_number : FnScope ["_law_cell", "_law_most"] ["_law_cell", "_law_most"] (defScope s__law_number) := ⟨rfl, rfl, rfl, by decide +kernel, rfl, by decide +kernel, by decide +kernel⟩

def spNumber : Sp := fun vs H Q _ => ∃ (c m : Int), vs = [.int c, .int m] ∧ 0 ≤ c ∧ c < 1000003 ∧ 0 ≤ m ∧ m ≤ 99 ∧ ∀ i : Int, Wd 100 i → Q (.int i) H
theorem ok__law_number {f : Addr} {fd : FuncData} {k : Nat} (F : Fun K "_law_number" "_law_number" s__law_number f fd) : FnOk P w K mg base CX0 (k + 1) f fd ["_law_cell", "_law_most"] spNumber := by
  refine F.ok sc__law_number (fun vs H Q E h => ?_) (fun cdv A outer s H vs Q E hr h => ?_)
  · obtain ⟨c, m, rfl, _⟩ := h
    rfl
  obtain ⟨c, m, rfl, c0, c1, m0, m1, q⟩ := h
  refine ⟨_, (pss_cons (ps_if (pt_cmpR op_eq (pv 1) pe_int (nomark _))
      (pss_one (ps_ret (pe_op op_mulW (pe_op op_sub (pv 0) pe_int) (pe_op op_pow pe_int pe_int))))
      pss_nil)
    (pss_one (ps_ret (pe_op op_sub (pe_op op_mod (pv 0) (pe_op op_add (pe_op op_mul pe_int (pv 1)) pe_int)) (pv 1))))), ?_⟩
  have small : ∀ i : Int, -1000000 ≤ i → i ≤ 1000000 → Wd 20 i := fun i a b => by
    show i.natAbs < 2 ^ 20
    omega
  have w70 : Wd 70 (10 ^ Int.toNat 20) := by
    show ((10 : Int) ^ 20).natAbs < 2 ^ 70
    decide
  refine ⟨_, rfl, rfl, _, rfl, ?_⟩
  refine ite2 (fun e => ?_) (fun e => ?_)
  · refine ⟨_, rfl, _, _, rfl, rfl, _, _, rfl, rfl, ⟨by decide, by decide, by decide⟩, _, _, rfl, rfl, Wd.mulOk (n := 20) (m := 70) (small _ (by omega) (by omega)) w70 (by decide) (by decide) (by decide), ?_⟩
    exact q _ (Wd.mono (Wd.mul (n := 20) (m := 70) (small _ (by omega) (by omega)) w70) (by decide))
  · have e' : m ≠ 0 := fun z => e (by rw [z]; rfl)
    walk_at "go"
    have h0 : 0 ≤ c % (2 * m + 1) := Int.emod_nonneg _ (by omega)
    have h1 : c % (2 * m + 1) < 2 * m + 1 := Int.emod_lt_of_pos _ (by omega)
    exact q _ (Wd.mono (small _ (by omega) (by omega)) (by decide))

abbrev s__law_whole : Stmt := topS 6
theorem sc__law_whole : FnScope ["_law_thing"] ["_law_thing"] (defScope s__law_whole) := ⟨rfl, rfl, rfl, by decide +kernel, rfl, by decide +kernel, by decide +kernel⟩

def spWhole : Sp := fun vs H Q _ => ∃ (i : Int), vs = [.int i] ∧ Q (.bl true) H
theorem ok__law_whole {f : Addr} {fd : FuncData} {k : Nat} (F : Fun K "_law_whole" "_law_whole" s__law_whole f fd) (B : Bl mg) : FnOk P w K mg base CX0 (k + 1) f fd ["_law_thing"] spWhole := by
  refine F.ok sc__law_whole (fun vs H Q E h => ?_) (fun cdv A outer s H vs Q E hr h => ?_)
  · obtain ⟨i, rfl, _⟩ := h
    rfl
  obtain ⟨i, rfl, q⟩ := h
  refine ⟨_, (pss_one (ps_ret (pe_and (pe_callB (kIsi (K := K) rfl) (by rfl) B.isinstance (by decide +kernel) (pa_cons (pv 0) (pa_cons (pe_bltn (v := .ty "int") (by rfl) B.int (by decide +kernel) rfl) pa_nil))) (pe_one (pe_not (pe_callB (kIsi (K := K) rfl) (by rfl) B.isinstance (by decide +kernel) (pa_cons (pv 0) (pa_cons (pe_bltn (v := .ty "bool") (by rfl) B.bool (by decide +kernel) rfl) pa_nil)))))))), ?_⟩
  refine ⟨_, rfl, _, _, _, _, true, rfl, .ty _, .base (.int _), kit_ty (by decide +kernel), _, rfl, ?_⟩
  refine iteT ?_
  refine ⟨_, rfl, _, _, _, _, false, rfl, .ty _, .base (.int _), kit_ty (by decide +kernel), _, rfl, ?_⟩
  exact q

abbrev s__law_value : Stmt := topS 7
theorem sc__law_value : FnScope ["_law_one", "_law_filling", "_law_found", "_law_k"] ["_law_one", "_law_filling"] (defScope s__law_value) := ⟨rfl, rfl, rfl, by decide +kernel, rfl, by decide +kernel, by decide +kernel⟩

theorem ok__law_value {f : Addr} {fd : FuncData} {k : Nat} (F : Fun K "_law_value" "_law_value" s__law_value f fd) (B : Bl mg) : FnOk P w K mg base CX0 (k + 1) f fd ["_law_one", "_law_filling"] (spValue K) := by
  refine F.ok sc__law_value (fun vs H Q E h => ?_) (fun cdv A outer s H vs Q E hr h => ?_)
  · obtain ⟨v, f, s, xs, rfl, _⟩ := h
    rfl
  obtain ⟨v, f, ⟨ns, m⟩, xs, rfl, ⟨a, t, rfl, h1, h2⟩, hF, hl, hz, w1, w2, q⟩ := h
  dsimp only at h1 h2 hl w1 w2 q
  refine ⟨_, (pss_cons (ps_set (i := 2) sc__law_value.nd rfl (.inl rfl) (pe_ix (kIxT (K := K) rfl) (pv 0) pe_int (fun _ _ => rfl)))
    (pss_cons (ps_for PassesOwn.never rfl (pi_range1 (by rfl) B.range (pa_cons (pe_callB (kLen (K := K) rfl) (by rfl) B.len PySem.boot_len (pa_cons (pv 1) pa_nil)) pa_nil)) (pg_name (i := 3) sc__law_value.nd rfl (.inl rfl))
      (pss_one (ps_set (i := 2) sc__law_value.nd rfl (.inl rfl) (pe_op op_add (pv 2) (pe_op op_mulW (pe_ix (kIxT (K := K) rfl) (pe_ix (kIxT (K := K) rfl) (pv 0) pe_int (fun _ _ => rfl)) (pv 3) (fun _ _ => rfl)) (pe_ix (kIxL (K := K) rfl) (pv 1) (pv 3) (fun _ _ => rfl)))))))
    (pss_one (ps_ret (pv 2))))), ?_⟩
  have lx : (xs.map V.int).length = xs.length := List.length_map _
  refine ⟨_, rfl, _, _, _, _, rfl, rfl, h1, atI_nat (j := 1) rfl, _, rfl, _, _, rfl, .inl hF, _, rfl, by omega, by omega, ?_⟩
  refine for_range (lo := 0) (n := ((xs.map V.int).length : Int).toNat) (fun i σ H' => H' = H ∧ ∃ y, σ = [some (.ref a), some (.ref f), some (.int (m + dot (ns.take i) (xs.take i))), y]) ⟨rfl, none, by simp [dot]; rfl⟩ (fun i σ H' hi p => ?_) (fun σ H' p => ?_)
  · obtain ⟨rfl, y, rfl⟩ := p
    have i1 : i < xs.length := by omega
    have i0 : i < ns.length := by omega
    refine ⟨_, rfl, _, rfl, _, _, _, _, rfl, rfl, h1, atI_nat (j := 0) rfl, _, rfl, _, _, _, _, rfl, rfl, h2, at_of (by omega) (intAt i0), _, rfl, _, rfl, _, _, _, _, rfl, rfl, hF, at_of (by omega) (intAt i1), ?_⟩
    refine ⟨_, _, rfl, rfl, Wd.mulOk (w1 _ (List.getElem_mem _)) (w2 _ (List.getElem_mem _)) (by decide) (by decide) (by decide), _, _, rfl, rfl, rfl, some (.int (0 + (i : Int))), ?_⟩
    rw [dot_take (List.getElem?_eq_getElem i0) (List.getElem?_eq_getElem i1), ← Int.add_assoc]
    rfl
  · obtain ⟨rfl, y, rfl⟩ := p
    refine ⟨_, rfl, ?_⟩
    have e : ((xs.map V.int).length : Int).toNat = xs.length := by omega
    rw [e, List.take_of_length_le (by omega), List.take_of_length_le (by omega)]
    exact q _ (Same.refl _)

abbrev s__law_is_sum : Stmt := topS 9
theorem sc__law_is_sum : FnScope ["_law_found", "_law_many", "_law_one"] ["_law_found", "_law_many"] (defScope s__law_is_sum) := ⟨rfl, rfl, rfl, by decide +kernel, rfl, by decide +kernel, by decide +kernel⟩

def spIsSum (K : PySem.W.Frag) : Sp := fun vs H Q _ => ∃ (v : V) (s : Sm), vs = [v, .int (s.1.length : Int)] ∧ SumIn K H v s ∧ s.1.length ≤ 1000 ∧ ∀ H', Same H H' → Q (.bl true) H'
theorem ok__law_is_sum {f : Addr} {fd : FuncData} {k : Nat} (F : Fun K "_law_is_sum" "_law_is_sum" s__law_is_sum f fd) (B : Bl mg) (c__law_whole : C8.Cal P w K mg base k "_law_whole" spWhole []) : FnOk P w K mg base CX0 (k + 1) f fd ["_law_found", "_law_many"] (spIsSum K) := by
  refine F.ok sc__law_is_sum (fun vs H Q E h => ?_) (fun cdv A outer s H vs Q E hr h => ?_)
  · obtain ⟨v, s, rfl, _⟩ := h
    rfl
  obtain ⟨v, ⟨ns, m⟩, rfl, ⟨a, t, rfl, h1, h2⟩, hz, q⟩ := h
  dsimp only at h1 h2 hz q
  refine ⟨_, (pss_cons (ps_if (PW.pt (pw_or (pt_not (pt_val (pe_callB (kIsi (K := K) rfl) (by rfl) B.isinstance (by decide +kernel) (pa_cons (pv 0) (pa_cons (pe_bltn (v := .ty "tuple") (by rfl) B.tuple (by decide +kernel) rfl) pa_nil))))) (pw_or (pt_cmpR op_ne (pe_callB (kLen (K := K) rfl) (by rfl) B.len PySem.boot_len (pa_cons (pv 0) pa_nil)) pe_int (nomark _)) (pw_or (pt_not (pt_val (pe_callB (kIsi (K := K) rfl) (by rfl) B.isinstance (by decide +kernel) (pa_cons (pe_ix (kIxT (K := K) rfl) (pv 0) pe_int (fun _ _ => rfl)) (pa_cons (pe_bltn (v := .ty "tuple") (by rfl) B.tuple (by decide +kernel) rfl) pa_nil))))) (pw_or1 (pt_cmpR op_ne (pe_callB (kLen (K := K) rfl) (by rfl) B.len PySem.boot_len (pa_cons (pe_ix (kIxT (K := K) rfl) (pv 0) pe_int (fun _ _ => rfl)) pa_nil)) (pv 1) (nomark _)))))))
      (pss_one (ps_ret pe_bl))
      pss_nil)
    (pss_one (ps_ret (pe_and (C8.pe_c c__law_whole hr (Nat.le_refl _) (by rfl) (pa_cons (pe_ix (kIxT (K := K) rfl) (pv 0) pe_int (fun _ _ => rfl)) pa_nil)) (pe_one (pe_cmpR (kEqD (K := K) rfl hr.units) (pe_lc (own := [("_law_one", 2)]) rfl sc__law_is_sum.nd (kTup_ (K := K) rfl (pe_ix (kIxT (K := K) rfl) (pv 0) pe_int (fun _ _ => rfl))) (blkOk_by (own := [("_law_one", 2)]) (N := ["_law_found", "_law_many", "_law_one"]) (sc := defScope s__law_is_sum) (by decide +kernel)) (fun _ _ _ _ _ => (pgN (i := 2) sc__law_is_sum.nd rfl (.inl rfl) (.inr rfl))) (fun _ _ _ _ _ => (pts_one (pt_not (pt_val (C8.pe_c c__law_whole hr (Nat.le_refl _) (by rfl) (pa_cons (pv 2) pa_nil)))))) (fun _ _ _ _ _ => (pv 2))) (pe_lst pa_nil) (nomark _))))))), ?_⟩
  have ln : (ns.map V.int).length = ns.length := List.length_map _
  refine ⟨_, rfl, _, _, _, _, true, rfl, .ty _, tyTup h1, kit_ty (by decide +kernel), _, rfl, ?_⟩
  refine iteF ⟨_, rfl, _, _, rfl, .inr h1, rfl, _, rfl, ?_⟩
  refine iteF ⟨_, rfl, _, _, _, _, rfl, rfl, h1, atI_nat (j := 0) rfl, _, _, _, _, true, rfl, .ty _, tyTup h2, kit_ty (by decide +kernel), _, rfl, ?_⟩
  refine iteF ⟨_, rfl, _, _, _, _, rfl, rfl, h1, atI_nat (j := 0) rfl, _, _, rfl, .inr h2, _, rfl, rfl, _, rfl, ?_⟩
  rw [ln, decide_eq_true rfl]
  refine iteF ?_
  refine ⟨_, rfl, _, _, _, _, rfl, rfl, h1, atI_nat (j := 1) rfl, _, rfl, _, rfl, ?_⟩
  refine iteT ?_
  refine ⟨_, rfl, _, _, _, _, rfl, rfl, h1, atI_nat (j := 0) rfl, _, rfl, ⟨_, h2⟩, fun D nD => ?_⟩
  refine lc_it walk_tup (fun _ H1 => H1 D = some (.lst []) ∧ Same H H1) ⟨upd_same, sameNew nD⟩ (fun i H1 _ p => tupS p.2 h2) (fun i x H1 H2 hi p y => ?_) (fun H1 p => ?_)
  · obtain ⟨rfl, e1⟩ := y
    have f1 := mapAt e1 (by simpa using hi)
    subst f1
    refine ⟨rfl, ?_⟩
    refine ⟨_, rfl, _, rfl, _, rfl, ?_⟩
    exact iteF p
  · refine ⟨by show 0 ≤ sizeLine; decide, fun N nN => ?_⟩
    refine ⟨.list [], .list [], .lst (.of (sameNew nN _ _ p.1)) .nil, .lst (.of upd_same) .nil, rfl, rfl, ?_⟩
    exact q _ (Same.trans p.2 (sameNew nN))

end

end LW

namespace LW
open PySem PySem.Spec PyProof.Rows L2
/-! ### put_in, in plain lists -/
def stepP (acc : Sm) (p : Int × Sm) : Sm := (List.zipWith (fun b y => b + p.1 * y) acc.1 p.2.1, acc.2 + p.1 * p.2.2)
def widthOf (bs : List Sm) : Nat := (bs.headD ([], 0)).1.length
def putIn (s : Sm) (bs : List Sm) : Sm := (s.1.zip bs).foldl stepP (List.replicate (widthOf bs) 0, s.2)
theorem stepP_len {acc : Sm} {p : Int × Sm} {k : Nat} (h : acc.1.length = k) (h' : p.2.1.length = k) : (stepP acc p).1.length = k := by
  simp [stepP, h, h']
theorem dot_step : ∀ (a b xs : List Int) (n : Int), a.length = b.length → dot (List.zipWith (fun p q => p + n * q) a b) xs = dot a xs + n * dot b xs
  | [], [], xs, n, _ => by simp [dot]
  | a :: r, b :: t, [], n, _ => by simp [dot]
  | a :: r, b :: t, x :: xs, n, h => by
    have ih := dot_step r t xs n (by simpa using h)
    simp only [List.zipWith_cons_cons, dot, ih, Int.add_mul, Int.mul_add, Int.mul_assoc]
    omega
  | [], _ :: _, _, _, h => by simp at h
  | _ :: _, [], _, _, h => by simp at h
theorem dot_zero : ∀ (k : Nat) (xs : List Int), dot (List.replicate k 0) xs = 0
  | 0, _ => by simp [dot]
  | k + 1, [] => by simp [List.replicate_succ, dot]
  | k + 1, x :: xs => by simp [List.replicate_succ, dot, dot_zero k xs]
theorem fold_val {k : Nat} (xs : List Int) : ∀ (ps : List (Int × Sm)) (acc : Sm), acc.1.length = k → (∀ p ∈ ps, p.2.1.length = k) →
    val (ps.foldl stepP acc) xs = val acc xs + dot (ps.map (·.1)) (ps.map fun p => val p.2 xs)
  | [], acc, _, _ => by simp [dot]
  | p :: r, acc, h, hp => by
    have hl := hp p (List.mem_cons_self ..)
    rw [List.foldl_cons, fold_val xs r (stepP acc p) (stepP_len h hl) fun q hq => hp q (List.mem_cons_of_mem _ hq)]
    simp only [List.map_cons, dot, val, stepP]
    rw [dot_step _ _ _ _ (h.trans hl.symm), Int.mul_add]
    omega
theorem put_val {s : Sm} {bs : List Sm} {xs : List Int} (hl : s.1.length = bs.length) (hw : ∀ b ∈ bs, b.1.length = widthOf bs) : val (putIn s bs) xs = val s (bs.map fun b => val b xs) := by
  unfold putIn
  rw [fold_val (k := widthOf bs) xs _ _ (by simp) fun p hp => hw _ (List.of_mem_zip hp).2]
  have e1 : (s.1.zip bs).map (·.1) = s.1 := by rw [List.map_fst_zip]; omega
  have e2 : (s.1.zip bs).map (fun p => val p.2 xs) = bs.map fun b => val b xs := by
    have q : (s.1.zip bs).map (fun p => val p.2 xs) = ((s.1.zip bs).map (·.2)).map fun b => val b xs := by rw [List.map_map]; rfl
    rw [q, List.map_snd_zip]
    omega
  rw [e1, e2]
  simp only [val, dot_zero]
  omega
theorem put_len {s : Sm} {bs : List Sm} (hw : ∀ b ∈ bs, b.1.length = widthOf bs) : (putIn s bs).1.length = widthOf bs := by
  have key : ∀ (ps : List (Int × Sm)) (acc : Sm) (k : Nat), acc.1.length = k → (∀ p ∈ ps, p.2.1.length = k) → (ps.foldl stepP acc).1.length = k := by
    intro ps
    induction ps with
    | nil => exact fun acc k h _ => h
    | cons p r ih => exact fun acc k h hp => ih _ k (stepP_len h (hp p (List.mem_cons_self ..))) fun q hq => hp q (List.mem_cons_of_mem _ hq)
  exact key _ _ _ (by simp) fun p hp => hw _ (List.of_mem_zip hp).2
/-- the numbers, one by one -/
theorem put_at {s : Sm} {bs : List Sm} (hw : ∀ b ∈ bs, b.1.length = widthOf bs) {j : Nat} (hj : j < widthOf bs) :
    (putIn s bs).1[j]? = some (((s.1.zip bs).map fun p => p.1 * (p.2.1[j]?.getD 0)).sum) := by
  have key : ∀ (ps : List (Int × Sm)) (acc : Sm) (x : Int), acc.1[j]? = some x → (∀ p ∈ ps, j < p.2.1.length) → (ps.foldl stepP acc).1[j]? = some (x + (ps.map fun p => p.1 * (p.2.1[j]?.getD 0)).sum) := by
    intro ps
    induction ps with
    | nil =>
      intro acc x h _
      simp [h]
    | cons p r ih =>
      intro acc x h hp
      have hl := hp p (List.mem_cons_self ..)
      have e : (stepP acc p).1[j]? = some (x + p.1 * (p.2.1[j]?.getD 0)) := by
        simp only [stepP, List.getElem?_zipWith, h, List.getElem?_eq_getElem hl, Option.getD_some]
      rw [List.foldl_cons, ih _ _ e fun q hq => hp q (List.mem_cons_of_mem _ hq), List.map_cons, List.sum_cons, Int.add_assoc]
  have q := key (s.1.zip bs) (List.replicate (widthOf bs) 0, s.2) 0 (by simp [hj]) fun p hp => by
    rw [hw _ (List.of_mem_zip hp).2]
    exact hj
  rw [putIn, q, Int.zero_add]
theorem put_last (s : Sm) (bs : List Sm) : (putIn s bs).2 = s.2 + ((s.1.zip bs).map fun p => p.1 * p.2.2).sum := by
  have key : ∀ (ps : List (Int × Sm)) (acc : Sm), (ps.foldl stepP acc).2 = acc.2 + (ps.map fun p => p.1 * p.2.2).sum := by
    intro ps
    induction ps with
    | nil => exact fun acc => by simp
    | cons p r ih =>
      intro acc
      rw [List.foldl_cons, ih, List.map_cons, List.sum_cons]
      simp only [stepP]
      omega
  exact key _ _

end LW

namespace LW
open PySem PySem.Spec PyProof.Rows L2
local macro_rules | `(tactic| walk_at "go1") => `(tactic| first
  | refine ⟨_, rfl, ?_⟩
  | refine ⟨_, _, rfl, rfl, ?_⟩
  | refine ⟨show (0 : Int) < _ from by omega, ?_⟩
  | refine ⟨show CMul _ _ from by first | exact .inl ⟨by omega, by omega⟩ | exact .inr ⟨by omega, by omega⟩, ?_⟩
  | refine ⟨show CDiv _ _ from ⟨by omega, by omega⟩, ?_⟩)
local macro_rules | `(tactic| walk_at "go") => `(tactic| repeat walk_at "go1")

section
variable {P : Program} {w : World} {K : PySem.W.Frag} {mg : Str → Option Value} {base : Heap}

/-- the numbers of the sums, as the columns give them -/
def colS (bs : List Sm) (j : Nat) : List Int := bs.map fun b => b.1[j]?.getD 0
theorem putCols {s : Sm} {bs : List Sm} (hw : ∀ b ∈ bs, b.1.length = widthOf bs) : putIn s bs = ((List.range (widthOf bs)).map fun j => val (s.1, 0) (colS bs j), val s (bs.map (·.2))) := by
  have key : ∀ (a : List Int) (bs : List Sm) (f : Sm → Int), ((a.zip bs).map fun p => p.1 * f p.2).sum = dot a (bs.map f) := by
    intro a
    induction a with
    | nil => intro bs f; simp [dot]
    | cons x r ih =>
      intro bs f
      cases bs with
      | nil => simp [dot]
      | cons b t => simp [dot, ih]
  refine Prod.ext ?_ ?_
  · apply List.ext_getElem?
    intro j
    by_cases hj : j < widthOf bs
    · rw [put_at hw hj, key s.1 bs fun b => b.1[j]?.getD 0]
      simp [hj, val, colS]
    · rw [List.getElem?_eq_none (by rw [put_len hw]; omega), List.getElem?_eq_none (by simp; omega)]
  · rw [put_last, key s.1 bs fun b => b.2]
    rfl
/-- the inner tuples of the sums -/
def RIn (K : PySem.W.Frag) (bs : List Sm) : Nat → V → Hp → Prop := fun j y H => ∃ (b : Sm) (tb : Addr), bs[j]? = some b ∧ y = .ref tb ∧ SqT K H tb (b.1.map V.int)
theorem stIn (bs : List Sm) : Stable (RIn K bs) := fun _ _ _ _ e ⟨b, tb, h1, h2, h3⟩ => ⟨b, tb, h1, h2, tsTup e h3⟩
theorem refsOf {H : Hp} : ∀ (bs : List Sm) (ys : List V), ys.length = bs.length → (∀ j y, ys[j]? = some y → RIn K bs j y H) → ∃ as : List Addr, ys = as.map V.ref ∧ TupsIn K H as (bs.map fun b => b.1.map V.int)
  | [], [], _, _ => ⟨[], rfl, .nil⟩
  | b :: r, y :: t, hl, h => by
    obtain ⟨as, e, q⟩ := refsOf r t (by simpa using hl) fun j z hz => by
      obtain ⟨b', tb, h1, h2, h3⟩ := h (j + 1) z (by simpa using hz)
      exact ⟨b', tb, by simpa using h1, h2, h3⟩
    obtain ⟨b', tb, h1, h2, h3⟩ := h 0 y rfl
    have : b = b' := by simpa using h1
    subst this
    exact ⟨tb :: as, by rw [h2, e]; rfl, .cons h3 q⟩
  | [], _ :: _, hl, _ => by simp at hl
  | _ :: _, [], hl, _ => by simp at hl
theorem tupsSame {H H' : Hp} (e : Same H H') {as : List Addr} {xss : List (List V)} (h : TupsIn K H as xss) : TupsIn K H' as xss := Paired.mapP h fun _ _ r => tupS e r
abbrev s_put_in : Stmt := topS 3
theorem sc_put_in : FnScope ["one", "boxes", "numbers", "_", "inners", "told", "inner", "column", "more"] ["one", "boxes"] (defScope s_put_in) := ⟨rfl, rfl, rfl, by decide +kernel, rfl, by decide +kernel, by decide +kernel⟩

def spPut (K : PySem.W.Frag) : Sp := fun vs H Q _ => ∃ (v : V) (bl : Addr) (s : Sm) (bvs : List V) (bs : List Sm), vs = [v, .ref bl] ∧ SumIn K H v s ∧ SqL K H bl bvs ∧ SumsIn K H bvs bs ∧ s.1.length = bs.length ∧ 0 < bs.length ∧ bs.length ≤ 3 ∧ widthOf bs ≤ 1000 ∧
  (∀ b ∈ bs, b.1.length = widthOf bs) ∧ (∀ n ∈ s.1, Wd 100000 n) ∧ (∀ b ∈ bs, Wd 100000 b.2 ∧ ∀ n ∈ b.1, Wd 100000 n) ∧ ∀ H' v', Same H H' → SumIn K H' v' (putIn s bs) → Q v' H'
theorem ok_put_in {f : Addr} {fd : FuncData} {k : Nat} (F : Fun K "put_in" "put_in" s_put_in f fd) (B : Bl mg) (c_value : C8.Cal P w K mg base k "value" (spValueA K) []) : FnOk P w K mg base CX0 (k + 1) f fd ["one", "boxes"] (spPut K) := by
  refine F.ok sc_put_in (fun vs H Q E h => ?_) (fun cdv A outer s H vs Q E hr h => ?_)
  · obtain ⟨v, bl, s, bvs, bs, rfl, _⟩ := h
    rfl
  obtain ⟨v, bl, ⟨ns, m⟩, bvs, bs, rfl, hv, hB, hS, hl, hp0, hp1, hw1, hw, w1, w2, q⟩ := h
  obtain ⟨a, t, rfl, h1, h2⟩ := id hv
  dsimp only at h1 h2 hl w1 q
  refine ⟨_, (pss_cons (ps_asg (pv 0) (kT2 (K := K) rfl rfl (pg_name (i := 2) sc_put_in.nd rfl (.inr rfl)) (pg_name (i := 3) sc_put_in.nd rfl (.inl rfl))))
    (pss_cons (ps_setLc (i := 4) (own := [("inner", 6), ("_", 3)]) rfl sc_put_in.nd rfl rfl (sw_true rfl rfl rfl (by decide +kernel)) (kList_ (K := K) rfl (pv 1)) (blkOk_by (own := [("inner", 6), ("_", 3)]) (N := ["one", "boxes", "numbers", "_", "inners", "told", "inner", "column", "more"]) (sc := defScope s_put_in) (by decide +kernel)) (fun _ _ _ _ _ => (pgT2 (K := K) rfl (pgN (i := 6) sc_put_in.nd rfl (.inl rfl) (.inr rfl)) (pgN (i := 3) sc_put_in.nd rfl (.inl rfl) (.inr rfl)) rfl (by rfl) (by rfl) (by rfl) (by rfl))) (fun _ _ _ _ _ => pts_nil) (fun _ _ _ _ _ => (pv 6)))
    (pss_cons (ps_setLc (i := 5) (own := [("column", 7)]) rfl sc_put_in.nd rfl rfl (sw_true rfl rfl rfl (by decide +kernel)) (kZS (K := K) rfl (by rfl) B.zip (pv 4)) (blkOk_by (own := [("column", 7)]) (N := ["one", "boxes", "numbers", "_", "inners", "told", "inner", "column", "more"]) (sc := defScope s_put_in) (by decide +kernel)) (fun _ _ _ _ _ => (pgN (i := 7) sc_put_in.nd rfl (.inl rfl) (.inr rfl))) (fun _ _ _ _ _ => pts_nil) (fun _ _ _ _ _ => (C8.pe_c c_value hr (Nat.le_refl _) (by rfl) (pa_cons (pe_tup (pa_cons (pv 2) (pa_cons pe_int pa_nil))) (pa_cons (pv 7) pa_nil)))))
    (pss_one (ps_ret (pe_tup (pa_cons (pe_callTy (kTup (K := K) rfl) (by rfl) B.tuple (by decide +kernel) (pa_cons (pv 5) pa_nil)) (pa_cons (C8.pe_c c_value hr (Nat.le_refl _) (by rfl) (pa_cons (pv 0) (pa_cons (pe_lc (own := [("_", 3), ("more", 8)]) rfl sc_put_in.nd (kList_ (K := K) rfl (pv 1)) (blkOk_by (own := [("_", 3), ("more", 8)]) (N := ["one", "boxes", "numbers", "_", "inners", "told", "inner", "column", "more"]) (sc := defScope s_put_in) (by decide +kernel)) (fun _ _ _ _ _ => (pgT2 (K := K) rfl (pgN (i := 3) sc_put_in.nd rfl (.inl rfl) (.inr rfl)) (pgN (i := 8) sc_put_in.nd rfl (.inl rfl) (.inr rfl)) rfl (by rfl) (by rfl) (by rfl) (by rfl))) (fun _ _ _ _ _ => pts_nil) (fun _ _ _ _ _ => (pv 8))) pa_nil))) pa_nil)))))))), ?_⟩
  have lb := hS.len
  have up4 : ∀ {n : Nat} {x : Int}, Wd 100000 x → Wd 400000 x := fun h => Wd.mono h (by decide)
  refine ⟨_, rfl, _, _, rfl, h1, rfl, _, _, rfl, _, _, rfl, rfl, ?_⟩
  -- inners
  refine ⟨_, rfl, bl, rfl, ⟨_, hB⟩, fun L nL => ?_⟩
  refine lc_it (walk_list (xs := bvs)) (Made H L (RIn K bs)) (made0 nL) (fun j H1 _ p => Same.seq p.same hB) (fun j x H1 H2 hj p y => ?_) (fun H1 p => ?_)
  · obtain ⟨rfl, ex⟩ := y
    obtain ⟨⟨bn, bm⟩, fb, ab, tb, rfl, g1, g2⟩ := sumsAt hS ex
    dsimp only at g1 g2
    refine ⟨_, _, rfl, tupS p.same g1, rfl, _, _, rfl, _, _, rfl, rfl, rfl, ?_⟩
    refine lcYes ?_
    refine ⟨_, rfl, ?_⟩
    exact p.push nL (stIn bs) (by omega) (Same.refl _) ⟨_, tb, fb, rfl, tupS p.same g2⟩
  obtain ⟨ys, lys, eL, s1, hys⟩ := p
  obtain ⟨as, rfl, hT⟩ := refsOf bs ys (by omega) hys
  have las : as.length = bs.length := by
    have := Paired.length hT
    simpa using this
  -- told
  refine ⟨_, rfl, L, as, _, rfl, .inr (.of eL), hT, by omega, by omega, fun D nD => ?_⟩
  refine lc_it (walkS (n := widthOf bs) (fun xs hx => ?_)) (Made H1 D (RI fun j => val (ns, 0) (colS bs j))) (made0 nD) (fun j H2 _ p => tupsSame p.same hT) (fun j x H2 H3 hj p y => ?_) (fun H2 p => ?_)
  · obtain ⟨b, hb, rfl⟩ := List.mem_map.mp hx
    rw [List.length_map]
    exact hw b hb
  · obtain ⟨T, rfl, nT, rfl⟩ := y
    have ecol : colV (bs.map fun b => b.1.map V.int) j = (colS bs j).map V.int := by
      simp only [colV, colS, List.map_map]
      apply List.map_congr_left
      intro b hb
      have : j < b.1.length := by rw [hw b hb]; exact hj
      simp [List.getD, this]
    rw [ecol]
    refine ⟨rfl, ?_⟩
    refine lcYes ?_
    refine ⟨_, rfl, by show 2 ≤ sizeLine; decide, fun U nU => ?_⟩
    have sU := Same.trans (sameNew (o := .tup ((colS bs j).map V.int)) nT) (sameNew (o := .tup [.ref t, .int 0]) nU)
    refine ⟨_, rfl, _, T, (ns, 0), colS bs j, rfl, ⟨U, t, rfl, .of upd_same, tupS (Same.trans s1 (Same.trans p.same sU)) h2⟩, .inr (tupS (sameNew nU) (.of upd_same)), by simp [colS, hl], by simp [colS]; omega, fun n hn => up4 (n := 0) (w1 n hn), fun x hx => ?_, fun H4 s4 => ?_⟩
    · obtain ⟨b, hb, rfl⟩ := List.mem_map.mp hx
      have : j < b.1.length := by rw [hw b hb]; exact hj
      rw [List.getElem?_eq_getElem this]
      exact up4 (n := 0) ((w2 b hb).2 _ (List.getElem_mem _))
    · exact p.push nD (stRI _) (by omega) (Same.trans sU s4) rfl
  obtain ⟨eD, s2⟩ := madeRI p
  have s12 := Same.trans s1 s2
  refine ⟨_, rfl, _, _, rfl, .inl ⟨.of eD, fun T nT => ?_⟩⟩
  have s3 := Same.trans s12 (sameNew (o := .tup (((List.range (widthOf bs)).map fun j => val (ns, 0) (colS bs j)).map V.int)) nT)
  refine ⟨_, rfl, _, rfl, bl, rfl, ⟨_, Same.seq s3 hB⟩, fun D2 nD2 => ?_⟩
  refine lc_it (walk_list (xs := bvs)) (Made _ D2 (RI fun j => ((bs.map (·.2))[j]?.getD 0))) (made0 nD2) (fun j H4 _ p => Same.seq p.same (Same.seq s3 hB)) (fun j x H4 H5 hj p y => ?_) (fun H4 p => ?_)
  · obtain ⟨rfl, ex⟩ := y
    obtain ⟨⟨bn, bm⟩, fb, ab, tb, rfl, g1, g2⟩ := sumsAt hS ex
    dsimp only at g1 g2
    refine ⟨_, _, rfl, tupS p.same (tupS s3 g1), rfl, _, _, rfl, _, _, rfl, rfl, rfl, ?_⟩
    refine lcYes ?_
    refine ⟨_, rfl, ?_⟩
    exact p.push nD2 (stRI _) (by omega) (Same.refl _) (by simp [RI, fb])
  obtain ⟨eD2, s4⟩ := madeRI p
  have e2 : (List.range bvs.length).map (fun j => ((bs.map (·.2))[j]?.getD 0)) = bs.map (·.2) := by
    apply List.ext_getElem?
    intro j
    by_cases hj : j < bs.length
    · simp [lb, hj]
    · rw [List.getElem?_eq_none (by simp; omega), List.getElem?_eq_none (by simp; omega)]
  rw [e2] at eD2
  have sA := Same.trans s3 s4
  refine ⟨_, D2, (ns, m), bs.map (·.2), rfl, SumIn.mono sA hv, .inl (.of eD2), by simp [hl], by simp; omega, fun n hn => up4 (n := 0) (w1 n hn), fun x hx => ?_, fun H5 s5 => ?_⟩
  · obtain ⟨b, hb, rfl⟩ := List.mem_map.mp hx
    exact up4 (n := 0) (w2 b hb).1
  refine ⟨by show 2 ≤ sizeLine; decide, fun W nW => ?_⟩
  refine q _ _ (Same.trans sA (Same.trans s5 (sameNew nW))) ?_
  rw [putCols hw]
  exact ⟨W, T, rfl, .of upd_same, tupS (Same.trans s4 (Same.trans s5 (sameNew nW))) (.of upd_same)⟩

end

end LW

namespace LW
open PySem PySem.Spec PyProof.Rows L2
local macro_rules | `(tactic| walk_at "go1") => `(tactic| first
  | refine ⟨_, rfl, ?_⟩
  | refine ⟨_, _, rfl, rfl, ?_⟩
  | refine ⟨show (0 : Int) < _ from by omega, ?_⟩
  | refine ⟨show CMul _ _ from by first | exact .inl ⟨by omega, by omega⟩ | exact .inr ⟨by omega, by omega⟩, ?_⟩
  | refine ⟨show CDiv _ _ from ⟨by omega, by omega⟩, ?_⟩)
local macro_rules | `(tactic| walk_at "go") => `(tactic| repeat walk_at "go1")

section
variable {P : Program} {w : World} {K : PySem.W.Frag} {mg : Str → Option Value} {base : Heap}

abbrev s_law : Stmt := topS 10
theorem sc_law : FnScope ["_law_script", "_law_cell", "_law_many", "_law_others", "_law_most", "_law_k", "_law_numbers", "_law_one", "_law_boxes", "_law_filling", "_law_handed", "_law_held", "_law_due", "_law_turned", "_law_found", "_law_more", "_law_box", "_law_j", "_law_number_here"] ["_law_script"] (defScope s_law) := ⟨rfl, rfl, rfl, by decide +kernel, rfl, by decide +kernel, by decide +kernel⟩

theorem atMem {xs : List Int} {i : Int} (h0 : 0 ≤ i) (h1 : i < xs.length) : ∃ v, atI (xs.map V.int) i = some (.int v) ∧ v ∈ xs := by
  obtain ⟨j, rfl⟩ : ∃ j : Nat, i = (j : Int) := ⟨i.toNat, by omega⟩
  have hj : j < xs.length := by omega
  exact ⟨xs[j], atI_nat (intAt hj), List.getElem_mem _⟩
/-- a number of the script, as it is drawn -/
theorem num_at {i : Nat} {tk : TE} {σ : L2.St} {H : Hp} {Q : VK} {a : Addr} {ns : List Int} {k m : Int} {tm : TA} (h1 : σ[i]? = some (some (.ref a))) (hk : ∀ R : VK, R (.int k) H → tk σ H R) (hm : ∀ R : List V → Hp → Prop, (∀ H', Same H H' → R [.int m] H') → tm σ H R)
    (hS : SqL K H a (ns.map V.int)) (h63 : ns.length ≤ 63) (k0 : 0 ≤ k) (k1 : k ≤ 1000) (m0 : 0 ≤ m) (m1 : m ≤ 99) (q : ∀ (z : Int) (H' : Hp), Wd 100 z → Same H H' → Q (.int z) H') :
    tCall spNumber [] E0 (tCons (tCall (spAt K) [] E0 (tCons (tVar i) (tCons tk tNil))) tm) σ H Q := by
  exact ⟨_, h1, hk _ ⟨a, ns, k, rfl, hS, h63, k0, k1, fun c c0 c1 => hm _ fun H' sm => ⟨c, m, rfl, c0, c1, m0, m1, fun z wz => q z H' wz sm⟩⟩⟩
theorem zip_range {ns : List Int} {bs : List Sm} (hl : ns.length = bs.length) (g : Int → Sm → Int) : ((ns.zip bs).map fun p => g p.1 p.2) = (List.range ns.length).map fun i => g (ns[i]?.getD 0) (bs[i]?.getD ([], 0)) := by
  apply List.ext_getElem?
  intro j
  by_cases hj : j < ns.length
  · have hb : j < bs.length := by omega
    have ez : (ns.zip bs)[j]? = some (ns[j], bs[j]) := List.getElem?_zip_eq_some.mpr ⟨List.getElem?_eq_getElem hj, List.getElem?_eq_getElem hb⟩
    rw [List.getElem?_map, ez]
    simp [hj, hb]
  · have hb : ¬ j < bs.length := by omega
    rw [List.getElem?_eq_none (by simp; omega), List.getElem?_eq_none (by simp; omega)]
def spLaw (K : PySem.W.Frag) : Sp := fun vs H Q _ => ∃ (a : Addr) (ns : List Int), vs = [.ref a] ∧ SqL K H a (ns.map V.int) ∧ ns.length ≤ 63 ∧ ∀ H', Q (.bl true) H'
/-- what stands when all is built: the sum one at U (its numbers at T), the boxes' list, the filling's -/
structure Built (K : PySem.W.Frag) (H : Hp) (U T : Addr) (ns : List Int) (z : Int) (bl : Addr) (bvs : List V) (bs : List Sm) (fl : Addr) (xs : List Int) : Prop where
  o1 : SqT K H U [.ref T, .int z]
  o2 : SqT K H T (ns.map V.int)
  bl : H bl = some (.lst bvs)
  bs : SumsIn K H bvs bs
  fl : H fl = some (.lst (xs.map V.int))
theorem Built.mono {H H' : Hp} {U T : Addr} {ns : List Int} {z : Int} {bl : Addr} {bvs : List V} {bs : List Sm} {fl : Addr} {xs : List Int} (h : Built K H U T ns z bl bvs bs fl xs) (e : Same H H') : Built K H' U T ns z bl bvs bs fl xs :=
  ⟨tupS e h.o1, tupS e h.o2, e _ _ h.bl, tsSums (tsOf e) h.bs, e _ _ h.fl⟩
theorem Built.one {H : Hp} {U T : Addr} {ns : List Int} {z : Int} {bl : Addr} {bvs : List V} {bs : List Sm} {fl : Addr} {xs : List Int} (h : Built K H U T ns z bl bvs bs fl xs) : SumIn K H (.ref U) (ns, z) := ⟨U, T, rfl, h.o1, h.o2⟩
/-- the slots from the boxes on -/
abbrev sg (a : Addr) (cell most : Int) (y5 y6 : Option V) (U bl : Addr) : L2.St :=
  [some (.ref a), some (.int cell), some (.int (1 + cell % 3)), some (.int (1 + cell / 3 % 3)), some (.int most), y5, y6, some (.ref U), some (.ref bl), none, none, none, none, none, none, none, none, none, none]
theorem ok_law {f : Addr} {fd : FuncData} {k : Nat} (F : Fun K "law" "law" s_law f fd) (B : Bl mg) (c__law_at : C8.Cal P w K mg base k "_law_at" (spAt K) []) (c__law_number : C8.Cal P w K mg base k "_law_number" spNumber []) (c__law_whole : C8.Cal P w K mg base k "_law_whole" spWhole [])
    (c__law_value : C8.Cal P w K mg base k "_law_value" (spValue K) []) (c__law_is_sum : C8.Cal P w K mg base k "_law_is_sum" (spIsSum K) []) (c_value : C8.Cal P w K mg base k "value" (spValueA K) []) (c_opposite : C8.Cal P w K mg base k "opposite" (spOpp K) []) (c_put_in : C8.Cal P w K mg base k "put_in" (spPut K) []) :
    FnOk P w K mg base CX0 (k + 1) f fd ["_law_script"] (spLaw K) := by
  refine F.ok sc_law (fun vs H Q E h => ?_) (fun cdv A outer s H vs Q E hr h => ?_)
  · obtain ⟨a, ns, rfl, _⟩ := h
    rfl
  obtain ⟨a, ns, rfl, hS, h63, q⟩ := h
  refine ⟨_, (pss_cons (ps_set (i := 1) sc_law.nd rfl (.inr rfl) (C8.pe_c c__law_at hr (Nat.le_refl _) (by rfl) (pa_cons (pv 0) (pa_cons pe_int pa_nil))))
    (pss_cons (ps_set (i := 2) sc_law.nd rfl (.inr rfl) (pe_op op_add pe_int (pe_op op_mod (pv 1) pe_int)))
    (pss_cons (ps_set (i := 3) sc_law.nd rfl (.inl rfl) (pe_op op_add pe_int (pe_op op_mod (pe_op op_fdiv (pv 1) pe_int) pe_int)))
    (pss_cons (ps_set (i := 4) sc_law.nd rfl (.inr rfl) (pe_ix (kIxL (K := K) rfl) (pe_lst (pa_cons pe_int (pa_cons pe_int (pa_cons pe_int (pa_cons pe_int pa_nil))))) (pe_op op_mod (pe_op op_fdiv (pv 1) pe_int) pe_int) (fun _ _ => rfl)))
    (pss_cons (ps_setLc (i := 6) (own := [("_law_k", 5)]) rfl sc_law.nd rfl rfl (sw_true rfl rfl rfl (by decide +kernel)) (pi_range1 (by rfl) B.range (pa_cons (pv 2) pa_nil)) (blkOk_by (own := [("_law_k", 5)]) (N := ["_law_script", "_law_cell", "_law_many", "_law_others", "_law_most", "_law_k", "_law_numbers", "_law_one", "_law_boxes", "_law_filling", "_law_handed", "_law_held", "_law_due", "_law_turned", "_law_found", "_law_more", "_law_box", "_law_j", "_law_number_here"]) (sc := defScope s_law) (by decide +kernel)) (fun _ _ _ _ _ => (pgN (i := 5) sc_law.nd rfl (.inl rfl) (.inr rfl))) (fun _ _ _ _ _ => pts_nil) (fun _ _ _ _ _ => (C8.pe_c c__law_number hr (Nat.le_refl _) (by rfl) (pa_cons (C8.pe_c c__law_at hr (Nat.le_refl _) (by rfl) (pa_cons (pv 0) (pa_cons (pe_op op_add pe_int (pv 5)) pa_nil))) (pa_cons (pv 4) pa_nil)))))
    (pss_cons (ps_set (i := 7) sc_law.nd rfl (.inr rfl) (pe_tup (pa_cons (pe_callTy (kTup (K := K) rfl) (by rfl) B.tuple (by decide +kernel) (pa_cons (pv 6) pa_nil)) (pa_cons (C8.pe_c c__law_number hr (Nat.le_refl _) (by rfl) (pa_cons (C8.pe_c c__law_at hr (Nat.le_refl _) (by rfl) (pa_cons (pv 0) (pa_cons pe_int pa_nil))) (pa_cons (pv 4) pa_nil))) pa_nil))))
    (pss_cons (ps_set (i := 8) sc_law.nd rfl (.inr rfl) (pe_lst pa_nil))
    (pss_cons (ps_for PassesOwn.never rfl (pi_range1 (by rfl) B.range (pa_cons (pv 2) pa_nil)) (pg_name (i := 5) sc_law.nd rfl (.inr rfl))
      (pss_cons (ps_setLc (i := 6) (own := [("_law_j", 17)]) rfl sc_law.nd rfl rfl (sw_true rfl rfl rfl (by decide +kernel)) (pi_range1 (by rfl) B.range (pa_cons (pv 3) pa_nil)) (blkOk_by (own := [("_law_j", 17)]) (N := ["_law_script", "_law_cell", "_law_many", "_law_others", "_law_most", "_law_k", "_law_numbers", "_law_one", "_law_boxes", "_law_filling", "_law_handed", "_law_held", "_law_due", "_law_turned", "_law_found", "_law_more", "_law_box", "_law_j", "_law_number_here"]) (sc := defScope s_law) (by decide +kernel)) (fun _ _ _ _ _ => (pgN (i := 17) sc_law.nd rfl (.inl rfl) (.inr rfl))) (fun _ _ _ _ _ => pts_nil) (fun _ _ _ _ _ => (C8.pe_c c__law_number hr (Nat.le_refl _) (by rfl) (pa_cons (C8.pe_c c__law_at hr (Nat.le_refl _) (by rfl) (pa_cons (pv 0) (pa_cons (pe_op op_add (pe_op op_add pe_int (pe_op op_mul pe_int (pv 5))) (pv 17)) pa_nil))) (pa_cons (pv 4) pa_nil)))))
      (pss_one (ps_expr (pe_bm PySem.F.plainAttrs_list PySem.F.slot_list_append PySem.F.type_list_append mt_append (pv 8) (pa_cons (pe_tup (pa_cons (pe_callTy (kTup (K := K) rfl) (by rfl) B.tuple (by decide +kernel) (pa_cons (pv 6) pa_nil)) (pa_cons (C8.pe_c c__law_number hr (Nat.le_refl _) (by rfl) (pa_cons (C8.pe_c c__law_at hr (Nat.le_refl _) (by rfl) (pa_cons (pv 0) (pa_cons (pe_op op_add pe_int (pe_op op_mul pe_int (pv 5))) pa_nil))) (pa_cons (pv 4) pa_nil))) pa_nil))) pa_nil))))))
    (pss_cons (ps_set (i := 9) sc_law.nd rfl (.inr rfl) (pe_lc (own := [("_law_k", 5)]) rfl sc_law.nd (pi_range1 (by rfl) B.range (pa_cons (pv 3) pa_nil)) (blkOk_by (own := [("_law_k", 5)]) (N := ["_law_script", "_law_cell", "_law_many", "_law_others", "_law_most", "_law_k", "_law_numbers", "_law_one", "_law_boxes", "_law_filling", "_law_handed", "_law_held", "_law_due", "_law_turned", "_law_found", "_law_more", "_law_box", "_law_j", "_law_number_here"]) (sc := defScope s_law) (by decide +kernel)) (fun _ _ _ _ _ => (pgN (i := 5) sc_law.nd rfl (.inl rfl) (.inr rfl))) (fun _ _ _ _ _ => pts_nil) (fun _ _ _ _ _ => (C8.pe_c c__law_number hr (Nat.le_refl _) (by rfl) (pa_cons (C8.pe_c c__law_at hr (Nat.le_refl _) (by rfl) (pa_cons (pv 0) (pa_cons (pe_op op_add pe_int (pv 5)) pa_nil))) (pa_cons (pe_ix (kIxL (K := K) rfl) (pe_lst (pa_cons pe_int (pa_cons pe_int pa_nil))) (pe_op op_mod (pe_op op_fdiv (pv 1) pe_int) pe_int) (fun _ _ => rfl)) pa_nil))))))
    (pss_cons (ps_set (i := 10) sc_law.nd rfl (.inl rfl) (pe_lst (pa_cons (pe_callTy (kList (K := K) rfl) (by rfl) B.list (by decide +kernel) (pa_cons (pv 8) pa_nil)) (pa_cons (pe_callTy (kList (K := K) rfl) (by rfl) B.list (by decide +kernel) (pa_cons (pv 9) pa_nil)) pa_nil))))
    (pss_cons (ps_setLc (i := 11) (own := [("_law_box", 16)]) rfl sc_law.nd rfl rfl (sw_true rfl rfl rfl (by decide +kernel)) (kList_ (K := K) rfl (pv 8)) (blkOk_by (own := [("_law_box", 16)]) (N := ["_law_script", "_law_cell", "_law_many", "_law_others", "_law_most", "_law_k", "_law_numbers", "_law_one", "_law_boxes", "_law_filling", "_law_handed", "_law_held", "_law_due", "_law_turned", "_law_found", "_law_more", "_law_box", "_law_j", "_law_number_here"]) (sc := defScope s_law) (by decide +kernel)) (fun _ _ _ _ _ => (pgN (i := 16) sc_law.nd rfl (.inl rfl) (.inr rfl))) (fun _ _ _ _ _ => pts_nil) (fun _ _ _ _ _ => (C8.pe_c c__law_value hr (Nat.le_refl _) (by rfl) (pa_cons (pv 16) (pa_cons (pv 9) pa_nil)))))
    (pss_cons (ps_set (i := 12) sc_law.nd rfl (.inl rfl) (C8.pe_c c__law_value hr (Nat.le_refl _) (by rfl) (pa_cons (pv 7) (pa_cons (pv 11) pa_nil))))
    (pss_cons (ps_if (PW.pt (pw_or (pt_not (pt_val (C8.pe_c c__law_whole hr (Nat.le_refl _) (by rfl) (pa_cons (C8.pe_c c_value hr (Nat.le_refl _) (by rfl) (pa_cons (pv 7) (pa_cons (pe_callTy (kList (K := K) rfl) (by rfl) B.list (by decide +kernel) (pa_cons (pv 11) pa_nil)) pa_nil))) pa_nil)))) (pw_or1 (pt_cmpR op_ne (C8.pe_c c_value hr (Nat.le_refl _) (by rfl) (pa_cons (pv 7) (pa_cons (pe_callTy (kList (K := K) rfl) (by rfl) B.list (by decide +kernel) (pa_cons (pv 11) pa_nil)) pa_nil))) (pv 12) (nomark _)))))
      (pss_one (ps_ret pe_bl))
      pss_nil)
    (pss_cons (ps_set (i := 13) sc_law.nd rfl (.inl rfl) (C8.pe_c c_opposite hr (Nat.le_refl _) (by rfl) (pa_cons (pv 7) pa_nil)))
    (pss_cons (ps_if (PW.pt (pw_or (pt_not (pt_val (C8.pe_c c__law_is_sum hr (Nat.le_refl _) (by rfl) (pa_cons (pv 13) (pa_cons (pv 2) pa_nil))))) (pw_or1 (pt_cmpR (kNeD (K := K) rfl hr.units) (pv 13) (pe_tup (pa_cons (pe_callTy (kTup (K := K) rfl) (by rfl) B.tuple (by decide +kernel) (pa_cons (pe_lc (own := [("_law_number_here", 18)]) rfl sc_law.nd (kTup_ (K := K) rfl (pe_ix (kIxT (K := K) rfl) (pv 7) pe_int (fun _ _ => rfl))) (blkOk_by (own := [("_law_number_here", 18)]) (N := ["_law_script", "_law_cell", "_law_many", "_law_others", "_law_most", "_law_k", "_law_numbers", "_law_one", "_law_boxes", "_law_filling", "_law_handed", "_law_held", "_law_due", "_law_turned", "_law_found", "_law_more", "_law_box", "_law_j", "_law_number_here"]) (sc := defScope s_law) (by decide +kernel)) (fun _ _ _ _ _ => (pgN (i := 18) sc_law.nd rfl (.inl rfl) (.inr rfl))) (fun _ _ _ _ _ => pts_nil) (fun _ _ _ _ _ => (pe_un un_neg (pv 18)))) pa_nil)) (pa_cons (pe_op op_sub pe_int (pe_ix (kIxT (K := K) rfl) (pv 7) pe_int (fun _ _ => rfl))) pa_nil))) (nomark _)))))
      (pss_one (ps_ret pe_bl))
      pss_nil)
    (pss_cons (ps_set (i := 14) sc_law.nd rfl (.inl rfl) (C8.pe_c c_put_in hr (Nat.le_refl _) (by rfl) (pa_cons (pv 7) (pa_cons (pe_ix (kIxL (K := K) rfl) (pv 10) pe_int (fun _ _ => rfl)) pa_nil))))
    (pss_cons (ps_if (PW.pt (pw_or (pt_not (pt_val (C8.pe_c c__law_is_sum hr (Nat.le_refl _) (by rfl) (pa_cons (pv 14) (pa_cons (pv 3) pa_nil))))) (pw_or1 (pt_cmpR op_ne (C8.pe_c c_value hr (Nat.le_refl _) (by rfl) (pa_cons (pv 14) (pa_cons (pe_ix (kIxL (K := K) rfl) (pv 10) pe_int (fun _ _ => rfl)) pa_nil))) (pv 12) (nomark _)))))
      (pss_one (ps_ret pe_bl))
      pss_nil)
    (pss_cons (ps_setLc (i := 6) (own := [("_law_j", 17)]) rfl sc_law.nd rfl rfl (sw_true rfl rfl rfl (by decide +kernel)) (pi_range1 (by rfl) B.range (pa_cons (pv 3) pa_nil)) (blkOk_by (own := [("_law_j", 17)]) (N := ["_law_script", "_law_cell", "_law_many", "_law_others", "_law_most", "_law_k", "_law_numbers", "_law_one", "_law_boxes", "_law_filling", "_law_handed", "_law_held", "_law_due", "_law_turned", "_law_found", "_law_more", "_law_box", "_law_j", "_law_number_here"]) (sc := defScope s_law) (by decide +kernel)) (fun _ _ _ _ _ => (pgN (i := 17) sc_law.nd rfl (.inr rfl) (.inl rfl))) (fun _ _ _ _ _ => pts_nil) (fun _ _ _ _ _ => (pe_callB (kSum (K := K) rfl rfl) (by rfl) B.sum (by decide +kernel) (pa_cons (pe_lc (own := [("_law_k", 5)]) rfl sc_law.nd (pi_range1 (by rfl) B.range (pa_cons (pv 2) pa_nil)) (blkOk_by (own := [("_law_k", 5)]) (by rfl)) (fun _ _ _ _ _ => (pgN (i := 5) sc_law.nd rfl (.inl rfl) (.inr rfl))) (fun _ _ _ _ _ => pts_nil) (fun _ _ _ _ _ => (pe_op op_mulW (pe_ix (kIxT (K := K) rfl) (pe_ix (kIxT (K := K) rfl) (pv 7) pe_int (fun _ _ => rfl)) (pv 5) (fun _ _ => rfl)) (pe_ix (kIxT (K := K) rfl) (pe_ix (kIxT (K := K) rfl) (pe_ix (kIxL (K := K) rfl) (pv 8) (pv 5) (fun _ _ => rfl)) pe_int (fun _ _ => rfl)) (pv 17) (fun _ _ => rfl))))) pa_nil))))
    (pss_cons (ps_set (i := 15) sc_law.nd rfl (.inl rfl) (pe_op op_add (pe_ix (kIxT (K := K) rfl) (pv 7) pe_int (fun _ _ => rfl)) (pe_callB (kSum (K := K) rfl rfl) (by rfl) B.sum (by decide +kernel) (pa_cons (pe_lc (own := [("_law_k", 5)]) rfl sc_law.nd (pi_range1 (by rfl) B.range (pa_cons (pv 2) pa_nil)) (blkOk_by (own := [("_law_k", 5)]) (N := ["_law_script", "_law_cell", "_law_many", "_law_others", "_law_most", "_law_k", "_law_numbers", "_law_one", "_law_boxes", "_law_filling", "_law_handed", "_law_held", "_law_due", "_law_turned", "_law_found", "_law_more", "_law_box", "_law_j", "_law_number_here"]) (sc := defScope s_law) (by decide +kernel)) (fun _ _ _ _ _ => (pgN (i := 5) sc_law.nd rfl (.inl rfl) (.inr rfl))) (fun _ _ _ _ _ => pts_nil) (fun _ _ _ _ _ => (pe_op op_mulW (pe_ix (kIxT (K := K) rfl) (pe_ix (kIxT (K := K) rfl) (pv 7) pe_int (fun _ _ => rfl)) (pv 5) (fun _ _ => rfl)) (pe_ix (kIxT (K := K) rfl) (pe_ix (kIxL (K := K) rfl) (pv 8) (pv 5) (fun _ _ => rfl)) pe_int (fun _ _ => rfl))))) pa_nil))))
    (pss_one (ps_ret (pe_and (pe_cmpR (kEqD (K := K) rfl hr.units) (pv 14) (pe_tup (pa_cons (pe_callTy (kTup (K := K) rfl) (by rfl) B.tuple (by decide +kernel) (pa_cons (pv 6) pa_nil)) (pa_cons (pv 15) pa_nil))) (nomark _)) (pe_one (pe_cmpR (kEqD (K := K) rfl hr.units) (pv 10) (pe_lst (pa_cons (pv 8) (pa_cons (pv 9) pa_nil))) (nomark _))))))))))))))))))))))))), ?_⟩
  -- cell, many, others
  refine ⟨_, rfl, a, ns, 0, rfl, hS, h63, by omega, by omega, fun cell c0 c1 => ?_⟩
  refine ⟨_, rfl, _, _, rfl, rfl, (show (0 : Int) < 3 by decide), _, _, rfl, rfl, ?_⟩
  refine ⟨_, rfl, _, _, rfl, rfl, ⟨(show (0 : Int) < 3 by decide), (show (3 : Int) < 1073741824 by decide)⟩, _, _, rfl, rfl, (show (0 : Int) < 3 by decide), _, _, rfl, rfl, ?_⟩
  -- most
  refine ⟨by show 4 ≤ sizeLine; decide, fun L nL => ?_⟩
  obtain ⟨most, em, mm⟩ := atMem (xs := [9, 99, 0, 9]) (i := cell / 9 % 4) (by omega) (by show cell / 9 % 4 < ((4 : Nat) : Int); omega)
  have m0 : 0 ≤ most ∧ most ≤ 99 := by
    simp at mm
    omega
  have s1 : Same H (upd H L (.lst ([9, 99, 0, 9].map V.int))) := sameNew nL
  refine ⟨_, rfl, _, _, rfl, rfl, ⟨(show (0 : Int) < 9 by decide), (show (9 : Int) < 1073741824 by decide)⟩, _, _, rfl, rfl, (show (0 : Int) < 4 by decide), _, _, _, _, rfl, rfl, .of upd_same, em, ?_⟩
  -- numbers
  refine ⟨_, rfl, _, rfl, by omega, by omega, fun D nD => ?_⟩
  refine lc_it walk_range (Made (upd H L (.lst ([9, 99, 0, 9].map V.int))) D (RP fun _ i => Wd 100 i)) (made0 nD) (fun _ _ _ _ => trivial) (fun i x H1 H2 hi p y => ?_) (fun H1 p => ?_)
  · obtain ⟨rfl, rfl⟩ := y
    refine ⟨rfl, ?_⟩
    refine lcYes ?_
    refine num_at (ns := ns) (k := 1 + (0 + (i : Int))) (m := most) rfl (fun R r => ⟨_, rfl, _, _, rfl, rfl, r⟩) (fun R r => ⟨_, rfl, r _ (Same.refl _)⟩) (Same.seq p.same (Same.seq s1 hS)) h63 (by omega) (by omega) m0.1 m0.2 fun z H3 wz sm => ?_
    exact p.push nD (stRP _) (by omega) sm ⟨z, rfl, wz⟩
  obtain ⟨nums, lnum, eD, s2, wnum⟩ := madeRP p
  have wn : ∀ n ∈ nums, Wd 100 n := fun n hn => by
    obtain ⟨j, hj⟩ := List.mem_iff_getElem?.mp hn
    exact wnum j n hj
  -- one
  refine ⟨_, rfl, _, _, rfl, .inl ⟨.of eD, fun T nT => ?_⟩⟩
  have s3 := Same.trans s1 (Same.trans s2 (sameNew (o := .tup (nums.map V.int)) nT))
  refine num_at (ns := ns) (k := 4) (m := most) rfl (fun R r => r) (fun R r => ⟨_, rfl, r _ (Same.refl _)⟩) (Same.seq s3 hS) h63 (by omega) (by omega) m0.1 m0.2 fun z H2 wz s4 => ?_
  refine ⟨by show 2 ≤ sizeLine; decide, fun U nU => ?_⟩
  have o2 : SqT K (upd H2 U (.tup [.ref T, .int z])) T (nums.map V.int) := tupS (Same.trans s4 (sameNew nU)) (.of upd_same)
  have o1 : SqT K (upd H2 U (.tup [.ref T, .int z])) U [.ref T, .int z] := .of upd_same
  have s5 : Same H (upd H2 U (.tup [.ref T, .int z])) := Same.trans s3 (Same.trans s4 (sameNew nU))
  generalize upd H2 U (.tup [.ref T, .int z]) = Ho at *
  clear s4 s3 eD s2 p nU nT em
  -- boxes
  refine ⟨Nat.zero_le _, fun bl nbl => ?_⟩
  refine ⟨_, rfl, _, rfl, by omega, by omega, ?_⟩
  refine for_range (lo := 0) (n := (1 + cell % 3).toNat) (fun i σ H' => ∃ (y5 y6 : Option V) (bvs : List V) (bs : List Sm), σ = sg a cell most y5 y6 U bl ∧ Same Ho H' ∧ H' bl = some (.lst bvs) ∧ SumsIn K H' bvs bs ∧ bs.length = i ∧
      ∀ b ∈ bs, b.1.length = (1 + cell / 3 % 3).toNat ∧ Wd 100 b.2 ∧ ∀ n ∈ b.1, Wd 100 n) ⟨none, some (.ref D), [], [], rfl, sameNew nbl, upd_same, .nil, rfl, fun b hb => by simp at hb⟩ (fun i σ H' hi p => ?_) (fun σ Hb p => ?_)
  · obtain ⟨y5, y6, bvs, bs, rfl, sm, ebl, hbs, lbs, wbs⟩ := p
    have hS1 := Same.seq sm (Same.seq s5 hS)
    refine ⟨_, rfl, _, rfl, by omega, by omega, fun D2 nD2 => ?_⟩
    refine lc_it walk_range (Made H' D2 (RP fun _ i => Wd 100 i)) (made0 nD2) (fun _ _ _ _ => trivial) (fun j x H1 H2 hj p y => ?_) (fun H1 p => ?_)
    · obtain ⟨rfl, rfl⟩ := y
      refine ⟨rfl, ?_⟩
      refine lcYes ?_
      refine num_at (ns := ns) (k := 5 + 4 * (0 + (i : Int)) + (0 + (j : Int))) (m := most) rfl (fun R r => ⟨_, rfl, _, _, rfl, rfl, .inl ⟨by decide, by decide⟩, _, _, rfl, rfl, _, rfl, _, _, rfl, rfl, r⟩) (fun R r => ⟨_, rfl, r _ (Same.refl _)⟩)
        (Same.seq p.same hS1) h63 (by omega) (by omega) m0.1 m0.2 fun z H3 wz sm => ?_
      exact p.push nD2 (stRP _) (by omega) sm ⟨z, rfl, wz⟩
    obtain ⟨bn, lbn, eD2, s6, wbn⟩ := madeRP p
    have wb : ∀ n ∈ bn, Wd 100 n := fun n hn => by
      obtain ⟨j, hj⟩ := List.mem_iff_getElem?.mp hn
      exact wbn j n hj
    have ebl1 : H1 bl = some (.lst bvs) := s6 _ _ ebl
    refine ⟨_, rfl, .inl ⟨rfl, _, .of ebl1⟩, ?_⟩
    refine ⟨_, rfl, _, _, rfl, .inl ⟨.of eD2, fun T2 nT2 => ?_⟩⟩
    refine num_at (ns := ns) (k := 8 + 4 * (0 + (i : Int))) (m := most) rfl (fun R r => ⟨_, rfl, _, _, rfl, rfl, .inl ⟨by decide, by decide⟩, _, _, rfl, rfl, r⟩) (fun R r => ⟨_, rfl, r _ (Same.refl _)⟩)
      (Same.seq (Same.trans s6 (sameNew nT2)) hS1) h63 (by omega) (by omega) m0.1 m0.2 fun bz H3 wbz s7 => ?_
    refine ⟨by show 2 ≤ sizeLine; decide, fun U2 nU2 => ?_⟩
    have s8 : Same H' (upd H3 U2 (.tup [.ref T2, .int bz])) := Same.trans s6 (Same.trans (sameNew nT2) (Same.trans s7 (sameNew nU2)))
    have ebl2 := s8 _ _ ebl
    have lv := hbs.len
    refine ⟨bl, bvs, _, rfl, rfl, ebl2, ?_, ?_⟩
    · have : (1000 : Nat) < sizeLine := by decide
      omega
    have t9 : TS (upd H3 U2 (.tup [.ref T2, .int bz])) (upd (upd H3 U2 (.tup [.ref T2, .int bz])) bl (.lst (bvs ++ [.ref U2]))) := tsLst ebl2
    refine ⟨some (.int (0 + (i : Int))), some (.ref D2), bvs ++ [.ref U2], bs ++ [(bn, bz)], rfl, sameMut (Same.trans sm s8) nbl, upd_same, ?_, by simp [lbs], fun b hb => ?_⟩
    · refine pairedApp (tsSums t9 (tsSums (tsOf s8) hbs)) (.cons ⟨U2, T2, rfl, tsTup t9 (.of upd_same), ?_⟩ .nil)
      exact tsTup t9 (tupS (Same.trans s7 (sameNew nU2)) (.of upd_same))
    · rcases List.mem_append.mp hb with hb | hb
      · exact wbs b hb
      · have : b = (bn, bz) := by simpa using hb
        subst this
        exact ⟨lbn, wbz, wb⟩
  obtain ⟨y5, y6, bvs, bs, rfl, sm, ebl, hbs, lbs, wbs⟩ := p
  have hS1 := Same.seq sm (Same.seq s5 hS)
  have o1b := tupS sm o1
  have o2b := tupS sm o2
  -- filling
  obtain ⟨fm, ef, mf⟩ := atMem (xs := [9, 0]) (i := cell / 36 % 2) (by omega) (by show cell / 36 % 2 < ((2 : Nat) : Int); omega)
  have f0 : 0 ≤ fm ∧ fm ≤ 99 := by
    simp at mf
    omega
  refine ⟨_, rfl, _, rfl, by omega, by omega, fun fl nfl => ?_⟩
  refine lc_it walk_range (Made Hb fl (RP fun _ i => Wd 100 i)) (made0 nfl) (fun _ _ _ _ => trivial) (fun i x H1 H2 hi p y => ?_) (fun Hf p => ?_)
  · obtain ⟨rfl, rfl⟩ := y
    refine ⟨rfl, ?_⟩
    refine lcYes ?_
    refine num_at (ns := ns) (k := 20 + (0 + (i : Int))) (m := fm) rfl (fun R r => ⟨_, rfl, _, _, rfl, rfl, r⟩)
      (fun R r => ⟨by show 2 ≤ sizeLine; decide, fun L2 nL2 => ⟨_, rfl, _, _, rfl, rfl, ⟨(show (0 : Int) < 36 by decide), (show (36 : Int) < 1073741824 by decide)⟩, _, _, rfl, rfl, (show (0 : Int) < 2 by decide), _, _, _, _, rfl, rfl, .of upd_same, ef, r _ (sameNew nL2)⟩⟩)
      (Same.seq p.same hS1) h63 (by omega) (by omega) f0.1 f0.2 fun z H3 wz sm => ?_
    exact p.push nfl (stRP _) (by omega) sm ⟨z, rfl, wz⟩
  obtain ⟨xs, lxs, efl, s6, wxs⟩ := madeRP p
  have wx : ∀ n ∈ xs, Wd 100 n := fun n hn => by
    obtain ⟨j, hj⟩ := List.mem_iff_getElem?.mp hn
    exact wxs j n hj
  have BF : Built K Hf U T nums z bl bvs bs fl xs := ⟨tupS s6 o1b, tupS s6 o2b, s6 _ _ ebl, tsSums (tsOf s6) hbs, efl⟩
  clear p efl s6 hbs ebl o1b o2b hS1 sm s5 o1 o2 wxs wnum
  have lnb : nums.length = bs.length := by omega
  have lv := BF.bs.len
  -- handed
  refine ⟨_, rfl, _, _, rfl, .inl (.of BF.bl), fun l1 n1 => ⟨_, rfl, _, _, rfl, .inl (.of (sameNew n1 _ _ BF.fl)), fun l2 n2 => ⟨by show 2 ≤ sizeLine; decide, fun hd nhd => ?_⟩⟩⟩
  have s7 : Same Hf (upd (upd (upd Hf l1 (.lst bvs)) l2 (.lst (xs.map V.int))) hd (.lst [.ref l1, .ref l2])) := Same.trans (sameNew n1) (Same.trans (sameNew n2) (sameNew nhd))
  have e1 : upd (upd (upd Hf l1 (.lst bvs)) l2 (.lst (xs.map V.int))) hd (.lst [.ref l1, .ref l2]) l1 = some (.lst bvs) := Same.trans (sameNew n2) (sameNew nhd) _ _ upd_same
  have e2 : upd (upd (upd Hf l1 (.lst bvs)) l2 (.lst (xs.map V.int))) hd (.lst [.ref l1, .ref l2]) l2 = some (.lst (xs.map V.int)) := sameNew nhd _ _ upd_same
  have e3 : upd (upd (upd Hf l1 (.lst bvs)) l2 (.lst (xs.map V.int))) hd (.lst [.ref l1, .ref l2]) hd = some (.lst [.ref l1, .ref l2]) := upd_same
  have BF1 := BF.mono s7
  generalize upd (upd (upd Hf l1 (.lst bvs)) l2 (.lst (xs.map V.int))) hd (.lst [.ref l1, .ref l2]) = Hh at *
  clear s7 BF n1 n2 nhd
  -- held
  refine ⟨_, rfl, _, rfl, ⟨_, .of BF1.bl⟩, fun hl nhl => ?_⟩
  refine lc_it walk_list (Made Hh hl (RI fun i => val (bs[i]?.getD ([], 0)) xs)) (made0 nhl) (fun i H1 _ p => .of (p.same _ _ BF1.bl)) (fun i x H1 H2 hi p y => ?_) (fun Hg p => ?_)
  · obtain ⟨rfl, ex⟩ := y
    refine ⟨rfl, ?_⟩
    refine lcYes ?_
    have BF2 := BF1.mono p.same
    obtain ⟨b, eb, hb⟩ := sumsAt BF2.bs ex
    have mb : b ∈ bs := List.mem_of_getElem? eb
    have w := wbs b mb
    refine ⟨_, rfl, _, rfl, x, fl, b, xs, rfl, hb, .of BF2.fl, by omega, by omega, fun n hn => (w.2.2 n hn).mono (by decide), fun n hn => (wx n hn).mono (by decide), fun H3 s8 => ?_⟩
    exact p.push nhl (stRI _) (by omega) s8 (by simp [RI, eb])
  obtain ⟨ehl, s8⟩ := madeRI p
  have eheld : (List.range bvs.length).map (fun i => val (bs[i]?.getD ([], 0)) xs) = bs.map fun b => val b xs := by
    apply List.ext_getElem?
    intro j
    by_cases hj : j < bs.length
    · have hv : j < bvs.length := by omega
      simp [hj, hv]
    · have hv : ¬ j < bvs.length := by omega
      simp [hj, hv]
  rw [eheld] at ehl
  have BF3 := BF1.mono s8
  replace e1 := s8 _ _ e1
  replace e2 := s8 _ _ e2
  replace e3 := s8 _ _ e3
  clear p s8 BF1 nhl eheld
  have wh : ∀ y ∈ bs.map (fun b => val b xs), Wd 300 y := fun y hy => by
    obtain ⟨b, hb, rfl⟩ := List.mem_map.mp hy
    have w := wbs b hb
    exact (valWd (n := 100) (m := 100) w.2.2 w.2.1 wx).mono (by omega)
  have lh : (bs.map fun b => val b xs).length = bs.length := List.length_map _
  have wn4 : ∀ n ∈ (nums, z).1, Wd 400000 n := fun n hn => (wn n hn).mono (by decide)
  have wh4 : ∀ y ∈ bs.map (fun b => val b xs), Wd 400000 y := fun n hn => (wh n hn).mono (by decide)
  -- due
  refine ⟨_, rfl, _, rfl, _, hl, (nums, z), _, rfl, BF3.one, .of ehl, by simp; omega, by omega, wn4, wh4, fun Hd s9 => ?_⟩
  have BF4 := BF3.mono s9
  replace e1 := s9 _ _ e1
  replace e2 := s9 _ _ e2
  replace e3 := s9 _ _ e3
  replace ehl := s9 _ _ ehl
  clear s9 BF3
  -- value
  refine ⟨_, rfl, _, rfl, _, _, rfl, .inl (.of ehl), fun c1 nc1 => ?_⟩
  refine ⟨_, c1, (nums, z), _, rfl, (BF4.mono (sameNew nc1)).one, .inl (.of upd_same), by simp; omega, by omega, wn4, wh4, fun H1 s10 => ?_⟩
  refine ⟨_, rfl, _, rfl, ?_⟩
  refine iteF ?_
  replace s10 := Same.trans (sameNew nc1) s10
  refine ⟨_, rfl, _, rfl, _, _, rfl, .inl (.of (s10 _ _ ehl)), fun c2 nc2 => ?_⟩
  refine ⟨_, c2, (nums, z), _, rfl, (BF4.mono (Same.trans s10 (sameNew nc2))).one, .inl (.of upd_same), by simp; omega, by omega, wn4, wh4, fun H2 s11 => ?_⟩
  refine ⟨_, rfl, rfl, _, rfl, iteNS rfl ?_⟩
  replace s11 := Same.trans s10 (Same.trans (sameNew nc2) s11)
  have BF5 := BF4.mono s11
  replace e1 := s11 _ _ e1
  replace e2 := s11 _ _ e2
  replace e3 := s11 _ _ e3
  clear s10 s11 nc1 nc2 ehl
  -- opposite
  refine ⟨_, rfl, _, (nums, z), rfl, BF5.one, by show nums.length ≤ 1000; omega, fun H3 tv s12 ht => ?_⟩
  have BF6 := BF5.mono s12
  replace e1 := s12 _ _ e1
  replace e2 := s12 _ _ e2
  replace e3 := s12 _ _ e3
  dsimp only at ht
  have em : (1 + cell % 3 : Int) = ((nums.map fun n => -n).length : Int) := by rw [List.length_map]; omega
  refine ⟨_, rfl, _, rfl, tv, (nums.map fun n => -n, 1 - z), congrArg (fun y => [tv, V.int y]) em, ht, by simp; omega, fun H4 s13 => ?_⟩
  refine ⟨_, rfl, ?_⟩
  refine iteF ?_
  have BF7 := BF6.mono s13
  refine ⟨_, rfl, _, rfl, _, _, _, _, rfl, rfl, BF7.o1, atI_nat (j := 0) rfl, _, rfl, ⟨_, BF7.o2⟩, fun D3 nD3 => ?_⟩
  refine lc_it walk_tup (Made H4 D3 (RI fun i => -(nums[i]?.getD 0))) (made0 nD3) (fun i H1 _ p => tupS p.same BF7.o2) (fun i x H1 H2 hi p y => ?_) (fun H5 p => ?_)
  · obtain ⟨rfl, ex⟩ := y
    have hi' : i < nums.length := by simpa using hi
    have f1 := mapAt ex hi'
    subst f1
    refine ⟨rfl, ?_⟩
    refine lcYes ?_
    refine ⟨_, rfl, _, rfl, ?_⟩
    exact p.push nD3 (stRI _) (by omega) (Same.refl _) (by simp [RI, hi'])
  obtain ⟨eD3, s14⟩ := madeRI p
  have en : (List.range (nums.map V.int).length).map (fun i => -(nums[i]?.getD 0)) = nums.map fun n => -n := by
    apply List.ext_getElem?
    intro j
    by_cases hj : j < nums.length
    · simp [hj]
    · simp [hj]
  rw [en] at eD3
  refine ⟨_, _, rfl, .inl ⟨.of eD3, fun T3 nT3 => ?_⟩⟩
  have s15 := Same.trans s14 (sameNew (o := .tup ((nums.map fun n => -n).map V.int)) nT3)
  have BF8 := BF7.mono s15
  refine ⟨_, rfl, _, _, _, _, rfl, rfl, BF8.o1, atI_nat (j := 1) rfl, _, _, rfl, rfl, by show 2 ≤ sizeLine; decide, fun U3 nU3 => ?_⟩
  have s16 := Same.trans s15 (sameNew (o := .tup [.ref T3, .int (1 - z)]) nU3)
  have ht2 := tsSum (tsOf (Same.trans s13 s16)) ht
  refine ⟨dS (nums.map fun n => -n, 1 - z), dS (nums.map fun n => -n, 1 - z), dpSum ht2, dpSum ⟨U3, T3, rfl, .of upd_same, tupS (sameNew nU3) (.of upd_same)⟩, (lySum _).shaped (by decide), (lySum _).shaped (by decide), _, rfl, ?_⟩
  rw [(lySum (nums.map fun n => -n, 1 - z)).same]
  refine iteF ?_
  have s17 := Same.trans s13 s16
  have BF9 := BF6.mono s17
  replace e1 := s17 _ _ e1
  replace e2 := s17 _ _ e2
  replace e3 := s17 _ _ e3
  generalize upd (upd H5 T3 (.tup ((nums.map fun n => -n).map V.int))) U3 (.tup [.ref T3, .int (1 - z)]) = Hp1 at *
  clear s17 ht2 s16 BF8 s15 nT3 nU3 eD3 s14 p nD3 BF7 s13 BF6 ht s12 BF5 BF4
  -- put_in
  have wid : widthOf bs = (1 + cell / 3 % 3).toNat := by
    cases bs with
    | nil =>
      simp at lbs
      omega
    | cons b r => exact (wbs b (List.mem_cons_self ..)).1
  have hwb : ∀ b ∈ bs, b.1.length = widthOf bs := fun b hb => by rw [wid]; exact (wbs b hb).1
  refine ⟨_, rfl, _, rfl, _, _, _, _, rfl, rfl, .of e3, atI_nat (j := 0) rfl, _, l1, (nums, z), bvs, bs, rfl, BF9.one, .of e1, BF9.bs, lnb, by omega, by omega, by omega, hwb, fun n hn => (wn n hn).mono (by decide),
    fun b hb => ⟨(wbs b hb).2.1.mono (by decide), fun n hn => ((wbs b hb).2.2 n hn).mono (by decide)⟩, fun H6 fv s18 hf => ?_⟩
  have BF10 := BF9.mono s18
  replace e1 := s18 _ _ e1
  replace e2 := s18 _ _ e2
  replace e3 := s18 _ _ e3
  have lput : (putIn (nums, z) bs).1.length = (1 + cell / 3 % 3).toNat := by rw [put_len hwb, wid]
  have eo : (1 + cell / 3 % 3 : Int) = ((putIn (nums, z) bs).1.length : Int) := by omega
  refine ⟨_, rfl, _, rfl, fv, putIn (nums, z) bs, congrArg (fun y => [fv, V.int y]) eo, hf, by omega, fun H7 s19 => ?_⟩
  refine ⟨_, rfl, ?_⟩
  refine iteF ?_
  have hatj : ∀ j, j < (1 + cell / 3 % 3).toNat → (putIn (nums, z) bs).1[j]? = some (((List.range nums.length).map fun i => (nums[i]?.getD 0) * ((bs[i]?.getD ([], 0)).1[j]?.getD 0)).sum) := fun j hj => by
    rw [put_at hwb (by omega)]
    exact congrArg (fun l => some (List.sum l)) (zip_range (ns := nums) lnb fun n b => n * (b.1[j]?.getD 0))
  have wput : ∀ n ∈ (putIn (nums, z) bs).1, Wd 400000 n := fun n hn => by
    obtain ⟨j, hj⟩ := List.mem_iff_getElem?.mp hn
    have hjl : j < (1 + cell / 3 % 3).toNat := by
      have := (List.getElem?_eq_some_iff.mp hj).1
      omega
    rw [hatj j hjl] at hj
    have ej := Option.some.inj hj
    subst ej
    refine (sumWd (n := 200) fun x hx => ?_).mono (by simp; omega)
    obtain ⟨i, hi, rfl⟩ := List.mem_map.mp hx
    have hi1 : i < nums.length := by simpa using hi
    have hi2 : i < bs.length := by omega
    have w := wbs bs[i] (List.getElem_mem _)
    have hj3 : j < (bs[i]).1.length := by omega
    simp only [List.getElem?_eq_getElem hi1, List.getElem?_eq_getElem hi2, Option.getD_some, List.getElem?_eq_getElem hj3]
    exact Wd.mul (n := 100) (m := 100) (wn _ (List.getElem_mem _)) (w.2.2 _ (List.getElem_mem _))
  have hf1 := tsSum (tsOf s19) hf
  refine ⟨_, rfl, _, rfl, _, _, _, _, rfl, rfl, .of (s19 _ _ e3), atI_nat (j := 1) rfl, fv, l2, putIn (nums, z) bs, xs, rfl, hf1, .inl (.of (s19 _ _ e2)), by omega, by omega, wput, fun n hn => (wx n hn).mono (by decide), fun H8 s20 => ?_⟩
  rw [put_val (s := (nums, z)) lnb hwb]
  refine ⟨_, rfl, rfl, _, rfl, iteNS rfl ?_⟩
  replace s20 := Same.trans s19 s20
  have BF11 := BF10.mono s20
  replace e1 := s20 _ _ e1
  replace e2 := s20 _ _ e2
  replace e3 := s20 _ _ e3
  replace hf := tsSum (tsOf s20) hf
  clear s19 s20 hf1 BF10 BF9 s18
  -- the numbers due
  refine ⟨_, rfl, _, rfl, by omega, by omega, fun D4 nD4 => ?_⟩
  refine lc_it walk_range (Made H8 D4 (RI fun j => ((List.range (1 + cell % 3).toNat).map fun i => (nums[i]?.getD 0) * ((bs[i]?.getD ([], 0)).1[j]?.getD 0)).sum)) (made0 nD4) (fun _ _ _ _ => trivial) (fun j x H1 H2 hj p y => ?_) (fun H9 p => ?_)
  · obtain ⟨rfl, rfl⟩ := y
    refine ⟨rfl, ?_⟩
    refine lcYes ?_
    have BF12 := BF11.mono p.same
    refine ⟨_, rfl, _, rfl, by omega, by omega, fun D5 nD5 => ?_⟩
    refine lc_it walk_range (Made H2 D5 (RI fun i => (nums[i]?.getD 0) * ((bs[i]?.getD ([], 0)).1[j]?.getD 0))) (made0 nD5) (fun _ _ _ _ => trivial) (fun i x H1 H3 hi p2 y => ?_) (fun H10 p2 => ?_)
    · obtain ⟨rfl, rfl⟩ := y
      refine ⟨rfl, ?_⟩
      refine lcYes ?_
      have BF13 := BF12.mono p2.same
      have i1 : i < nums.length := by omega
      have i2 : i < bs.length := by omega
      have i3 : i < bvs.length := by omega
      obtain ⟨b, eb, ab, tb, evb, b1, b2⟩ := sumsAt BF13.bs (List.getElem?_eq_getElem i3)
      have mb : b ∈ bs := List.mem_of_getElem? eb
      have w := wbs b mb
      have j3 : j < b.1.length := by omega
      refine ⟨_, rfl, _, _, _, _, rfl, rfl, BF13.o1, atI_nat (j := 0) rfl, _, rfl, _, _, _, _, rfl, rfl, BF13.o2, at_of (j := i) (by omega) (intAt i1), ?_⟩
      refine ⟨_, rfl, _, rfl, _, _, _, _, rfl, rfl, .of BF13.bl, at_of (j := i) (by omega) (List.getElem?_eq_getElem i3), _, _, _, _, evb, rfl, b1, atI_nat (j := 0) rfl, _, rfl, _, _, _, _, rfl, rfl, b2, at_of (j := j) (by omega) (intAt j3), ?_⟩
      refine ⟨_, _, rfl, rfl, Wd.mulOk (n := 100) (m := 100) (wn _ (List.getElem_mem _)) (w.2.2 _ (List.getElem_mem _)) (by decide) (by decide) (by decide), ?_⟩
      exact p2.push nD5 (stRI _) (by omega) (Same.refl _) (by simp [RI, i1, eb, j3])
    obtain ⟨eD5, s21⟩ := madeRI p2
    refine ⟨_, _, rfl, .of eD5, ?_⟩
    exact p.push nD4 (stRI _) (by omega) s21 rfl
  obtain ⟨eD4, s22⟩ := madeRI p
  have BF14 := BF11.mono s22
  replace e1 := s22 _ _ e1
  replace e2 := s22 _ _ e2
  replace e3 := s22 _ _ e3
  replace hf := tsSum (tsOf s22) hf
  have lM : (1 + cell % 3).toNat = nums.length := by omega
  have edue : (List.range (1 + cell / 3 % 3).toNat).map (fun j => ((List.range (1 + cell % 3).toNat).map fun i => (nums[i]?.getD 0) * ((bs[i]?.getD ([], 0)).1[j]?.getD 0)).sum) = (putIn (nums, z) bs).1 := by
    apply List.ext_getElem?
    intro j
    by_cases hj : j < (1 + cell / 3 % 3).toNat
    · rw [hatj j hj, lM]
      simp [hj]
    · rw [List.getElem?_eq_none (by simp; omega), List.getElem?_eq_none (by omega)]
  rw [edue] at eD4
  clear p s22 BF11
  -- the last one due
  refine ⟨_, rfl, _, _, _, _, rfl, rfl, BF14.o1, atI_nat (j := 1) rfl, _, rfl, _, rfl, by omega, by omega, fun D6 nD6 => ?_⟩
  refine lc_it walk_range (Made H9 D6 (RI fun i => (nums[i]?.getD 0) * (bs[i]?.getD ([], 0)).2)) (made0 nD6) (fun _ _ _ _ => trivial) (fun i x H1 H2 hi p y => ?_) (fun H10 p => ?_)
  · obtain ⟨rfl, rfl⟩ := y
    refine ⟨rfl, ?_⟩
    refine lcYes ?_
    have BF15 := BF14.mono p.same
    have i1 : i < nums.length := by omega
    have i3 : i < bvs.length := by omega
    obtain ⟨b, eb, ab, tb, evb, b1, b2⟩ := sumsAt BF15.bs (List.getElem?_eq_getElem i3)
    have w := wbs b (List.mem_of_getElem? eb)
    refine ⟨_, rfl, _, _, _, _, rfl, rfl, BF15.o1, atI_nat (j := 0) rfl, _, rfl, _, _, _, _, rfl, rfl, BF15.o2, at_of (j := i) (by omega) (intAt i1), ?_⟩
    refine ⟨_, rfl, _, rfl, _, _, _, _, rfl, rfl, .of BF15.bl, at_of (j := i) (by omega) (List.getElem?_eq_getElem i3), _, _, _, _, evb, rfl, b1, atI_nat (j := 1) rfl, ?_⟩
    refine ⟨_, _, rfl, rfl, Wd.mulOk (n := 100) (m := 100) (wn _ (List.getElem_mem _)) w.2.1 (by decide) (by decide) (by decide), ?_⟩
    exact p.push nD6 (stRI _) (by omega) (Same.refl _) (by simp [RI, i1, eb])
  obtain ⟨eD6, s23⟩ := madeRI p
  refine ⟨_, _, rfl, .of eD6, _, _, rfl, rfl, ?_⟩
  have elast : z + ((List.range (1 + cell % 3).toNat).map fun i => (nums[i]?.getD 0) * (bs[i]?.getD ([], 0)).2).sum = (putIn (nums, z) bs).2 := by
    rw [put_last, lM]
    exact congrArg (fun l => z + List.sum l) (zip_range (ns := nums) lnb fun n b => n * b.2).symm
  dsimp only
  rw [elast]
  have BF16 := BF14.mono s23
  replace e1 := s23 _ _ e1
  replace e2 := s23 _ _ e2
  replace e3 := s23 _ _ e3
  replace hf := tsSum (tsOf s23) hf
  replace eD4 := s23 _ _ eD4
  clear p s23 BF14 elast edue
  -- the two comparisons
  refine ⟨_, rfl, _, rfl, _, _, rfl, .inl ⟨.of eD4, fun T4 nT4 => ⟨_, rfl, by show 2 ≤ sizeLine; decide, fun U4 nU4 => ?_⟩⟩⟩
  have s24 := Same.trans (sameNew (o := .tup ((putIn (nums, z) bs).1.map V.int)) nT4) (sameNew (o := .tup [.ref T4, .int (putIn (nums, z) bs).2]) nU4)
  refine ⟨dS (putIn (nums, z) bs), dS (putIn (nums, z) bs), dpSum (tsSum (tsOf s24) hf), dpSum ⟨U4, T4, rfl, .of upd_same, tupS (sameNew nU4) (.of upd_same)⟩, (lySum _).shaped (by decide), (lySum _).shaped (by decide), _, rfl, ?_⟩
  rw [(lySum (putIn (nums, z) bs)).same]
  refine iteT ?_
  have BF17 := BF16.mono s24
  refine ⟨_, rfl, _, rfl, _, rfl, by show 2 ≤ sizeLine; decide, fun L9 nL9 => ?_⟩
  have s25 := Same.trans s24 (sameNew (o := .lst [.ref bl, .ref fl]) nL9)
  have BF18 := BF17.mono (sameNew (o := .lst [.ref bl, .ref fl]) nL9)
  have ly : Ly 6 (.list [.list (bs.map dS), .list (dI xs)]) := lyLst (lyCons ((lyLst (lySums bs)).up (by decide)) (lyCons ((lyLst (lyInts xs)).up (by decide)) (lyNil _)))
  refine ⟨.list [.list (bs.map dS), .list (dI xs)], .list [.list (bs.map dS), .list (dI xs)],
    .lst (.of (s25 _ _ e3)) (.cons (.lst (.of (s25 _ _ e1)) (dpSums BF18.bs)) (.cons (.lst (.of (s25 _ _ e2)) (dpInts xs)) .nil)),
    .lst (.of upd_same) (.cons (.lst (.of BF18.bl) (dpSums BF18.bs)) (.cons (.lst (.of BF18.fl) (dpInts xs)) .nil)), ly.shaped (by decide), ly.shaped (by decide), ?_⟩
  rw [ly.same]
  exact q _

end

end LW

namespace LW
open PySem PySem.Spec PyProof.Rows L2
theorem calMk {P : Program} {w : World} {K : PySem.W.Frag} {mg : Str → Option Value} {base : Heap} {j k : Nat} {x : Str} {sp : Sp} {f : Addr} {fd : FuncData} {ps : List Str} (F : FnOk P w K mg base CX0 j f fd ps sp) (hm : mg x = some (.ref f)) (kp : PySem.W.keepIn K (.ref f) = true) (b : Binds K fd ps []) (h : j ≤ k) : C8.Cal P w K mg base k x sp [] :=
  ⟨f, fd, ps, [], F.mono h, hm, kp, b, .nil⟩
theorem all_mk {l : PySem.W.OpenLaw} {w : World} {K : PySem.W.Frag} {h : Heap} {mg : Str → Option Value} {fa : Addr} (X : K.In h) (G : h.Ns mainGlobals mg) (hfa : mg "law" = some (.ref fa))
    {f1 : Addr} {od1 an1 : Option Addr} {sl1 : Array (Option Value)} {oc1 kV1 dc1 pm1 cd1 ct1 : Value} (a1 : PySem.W.nsIn K mainGlobals "value" = some (some (.ref f1))) (l1 : K.lookup f1 = some ⟨oc1, od1, .func (PySem.W.fnOf "value" "value" (defArgs s_value) (defBody s_value) (defScope s_value) .none kV1 dc1 pm1 an1 cd1 ct1), sl1⟩) (c1 : PySem.W.codeIn K cd1 "value" = true) (k1 : PySem.W.keepIn K (.ref f1) = true)
    {f2 : Addr} {od2 an2 : Option Addr} {sl2 : Array (Option Value)} {oc2 kV2 dc2 pm2 cd2 ct2 : Value} (a2 : PySem.W.nsIn K mainGlobals "opposite" = some (some (.ref f2))) (l2 : K.lookup f2 = some ⟨oc2, od2, .func (PySem.W.fnOf "opposite" "opposite" (defArgs s_opposite) (defBody s_opposite) (defScope s_opposite) .none kV2 dc2 pm2 an2 cd2 ct2), sl2⟩) (c2 : PySem.W.codeIn K cd2 "opposite" = true) (k2 : PySem.W.keepIn K (.ref f2) = true)
    {f3 : Addr} {od3 an3 : Option Addr} {sl3 : Array (Option Value)} {oc3 kV3 dc3 pm3 cd3 ct3 : Value} (a3 : PySem.W.nsIn K mainGlobals "put_in" = some (some (.ref f3))) (l3 : K.lookup f3 = some ⟨oc3, od3, .func (PySem.W.fnOf "put_in" "put_in" (defArgs s_put_in) (defBody s_put_in) (defScope s_put_in) .none kV3 dc3 pm3 an3 cd3 ct3), sl3⟩) (c3 : PySem.W.codeIn K cd3 "put_in" = true) (k3 : PySem.W.keepIn K (.ref f3) = true)
    {f4 : Addr} {od4 an4 : Option Addr} {sl4 : Array (Option Value)} {oc4 kV4 dc4 pm4 cd4 ct4 : Value} (a4 : PySem.W.nsIn K mainGlobals "_law_at" = some (some (.ref f4))) (l4 : K.lookup f4 = some ⟨oc4, od4, .func (PySem.W.fnOf "_law_at" "_law_at" (defArgs s__law_at) (defBody s__law_at) (defScope s__law_at) .none kV4 dc4 pm4 an4 cd4 ct4), sl4⟩) (c4 : PySem.W.codeIn K cd4 "_law_at" = true) (k4 : PySem.W.keepIn K (.ref f4) = true)
    {f5 : Addr} {od5 an5 : Option Addr} {sl5 : Array (Option Value)} {oc5 kV5 dc5 pm5 cd5 ct5 : Value} (a5 : PySem.W.nsIn K mainGlobals "_law_whole" = some (some (.ref f5))) (l5 : K.lookup f5 = some ⟨oc5, od5, .func (PySem.W.fnOf "_law_whole" "_law_whole" (defArgs s__law_whole) (defBody s__law_whole) (defScope s__law_whole) .none kV5 dc5 pm5 an5 cd5 ct5), sl5⟩) (c5 : PySem.W.codeIn K cd5 "_law_whole" = true) (k5 : PySem.W.keepIn K (.ref f5) = true)
    {f6 : Addr} {od6 an6 : Option Addr} {sl6 : Array (Option Value)} {oc6 kV6 dc6 pm6 cd6 ct6 : Value} (a6 : PySem.W.nsIn K mainGlobals "_law_value" = some (some (.ref f6))) (l6 : K.lookup f6 = some ⟨oc6, od6, .func (PySem.W.fnOf "_law_value" "_law_value" (defArgs s__law_value) (defBody s__law_value) (defScope s__law_value) .none kV6 dc6 pm6 an6 cd6 ct6), sl6⟩) (c6 : PySem.W.codeIn K cd6 "_law_value" = true) (k6 : PySem.W.keepIn K (.ref f6) = true)
    {f7 : Addr} {od7 an7 : Option Addr} {sl7 : Array (Option Value)} {oc7 kV7 dc7 pm7 cd7 ct7 : Value} (a7 : PySem.W.nsIn K mainGlobals "_law_number" = some (some (.ref f7))) (l7 : K.lookup f7 = some ⟨oc7, od7, .func (PySem.W.fnOf "_law_number" "_law_number" (defArgs s__law_number) (defBody s__law_number) (defScope s__law_number) .none kV7 dc7 pm7 an7 cd7 ct7), sl7⟩) (c7 : PySem.W.codeIn K cd7 "_law_number" = true) (k7 : PySem.W.keepIn K (.ref f7) = true)
    {f8 : Addr} {od8 an8 : Option Addr} {sl8 : Array (Option Value)} {oc8 kV8 dc8 pm8 cd8 ct8 : Value} (a8 : PySem.W.nsIn K mainGlobals "_law_is_sum" = some (some (.ref f8))) (l8 : K.lookup f8 = some ⟨oc8, od8, .func (PySem.W.fnOf "_law_is_sum" "_law_is_sum" (defArgs s__law_is_sum) (defBody s__law_is_sum) (defScope s__law_is_sum) .none kV8 dc8 pm8 an8 cd8 ct8), sl8⟩) (c8 : PySem.W.codeIn K cd8 "_law_is_sum" = true) (k8 : PySem.W.keepIn K (.ref f8) = true)
    {f9 : Addr} {od9 an9 : Option Addr} {sl9 : Array (Option Value)} {oc9 kV9 dc9 pm9 cd9 ct9 : Value} (a9 : PySem.W.nsIn K mainGlobals "law" = some (some (.ref f9))) (l9 : K.lookup f9 = some ⟨oc9, od9, .func (PySem.W.fnOf "law" "law" (defArgs s_law) (defBody s_law) (defScope s_law) .none kV9 dc9 pm9 an9 cd9 ct9), sl9⟩) (c9 : PySem.W.codeIn K cd9 "law" = true) (k9 : PySem.W.keepIn K (.ref f9) = true)
    (z_len : PySem.W.nsIn K mainGlobals "len" = some none) (z_range : PySem.W.nsIn K mainGlobals "range" = some none) (z_zip : PySem.W.nsIn K mainGlobals "zip" = some none) (z_enumerate : PySem.W.nsIn K mainGlobals "enumerate" = some none) (z_sum : PySem.W.nsIn K mainGlobals "sum" = some none) (z_all : PySem.W.nsIn K mainGlobals "all" = some none) (z_tuple : PySem.W.nsIn K mainGlobals "tuple" = some none) (z_list : PySem.W.nsIn K mainGlobals "list" = some none) (z_isinstance : PySem.W.nsIn K mainGlobals "isinstance" = some none) (z_int : PySem.W.nsIn K mainGlobals "int" = some none) (z_bool : PySem.W.nsIn K mainGlobals "bool" = some none) (z_str : PySem.W.nsIn K mainGlobals "str" = some none) (z_type : PySem.W.nsIn K mainGlobals "type" = some none) :
    ∃ fd : FuncData, (∀ (s : Shared) (v : Value), BindsTo s fd ⟨[v], []⟩ [("_law_script", v)]) ∧ ∀ base : Heap, K.In base → base.Ns mainGlobals mg → FnOk l.prog w K mg base CX0 3 fa fd ["_law_script"] (spLaw K) := by
  have e := hfa.symm.trans (PySem.W.mg_of X G a9)
  cases e
  have F1 := fun_mk (st := s_value) l1 c1 k1
  have b1 := F1.binds (ps := ["one", "filling"]) fun _ _ _ _ _ _ us hl => match us, hl with | [_, _], _ => rfl
  have m1 := PySem.W.mg_of X G a1
  have F2 := fun_mk (st := s_opposite) l2 c2 k2
  have b2 := F2.binds (ps := ["one"]) fun _ _ _ _ _ _ us hl => match us, hl with | [_], _ => rfl
  have m2 := PySem.W.mg_of X G a2
  have F3 := fun_mk (st := s_put_in) l3 c3 k3
  have b3 := F3.binds (ps := ["one", "boxes"]) fun _ _ _ _ _ _ us hl => match us, hl with | [_, _], _ => rfl
  have m3 := PySem.W.mg_of X G a3
  have F4 := fun_mk (st := s__law_at) l4 c4 k4
  have b4 := F4.binds (ps := ["_law_script", "_law_k"]) fun _ _ _ _ _ _ us hl => match us, hl with | [_, _], _ => rfl
  have m4 := PySem.W.mg_of X G a4
  have F5 := fun_mk (st := s__law_whole) l5 c5 k5
  have b5 := F5.binds (ps := ["_law_thing"]) fun _ _ _ _ _ _ us hl => match us, hl with | [_], _ => rfl
  have m5 := PySem.W.mg_of X G a5
  have F6 := fun_mk (st := s__law_value) l6 c6 k6
  have b6 := F6.binds (ps := ["_law_one", "_law_filling"]) fun _ _ _ _ _ _ us hl => match us, hl with | [_, _], _ => rfl
  have m6 := PySem.W.mg_of X G a6
  have F7 := fun_mk (st := s__law_number) l7 c7 k7
  have b7 := F7.binds (ps := ["_law_cell", "_law_most"]) fun _ _ _ _ _ _ us hl => match us, hl with | [_, _], _ => rfl
  have m7 := PySem.W.mg_of X G a7
  have F8 := fun_mk (st := s__law_is_sum) l8 c8 k8
  have b8 := F8.binds (ps := ["_law_found", "_law_many"]) fun _ _ _ _ _ _ us hl => match us, hl with | [_, _], _ => rfl
  have m8 := PySem.W.mg_of X G a8
  have F9 := fun_mk (st := s_law) l9 c9 k9
  have m9 := PySem.W.mg_of X G a9
  have B : Bl mg := ⟨PySem.W.mg_none_of X G z_len, PySem.W.mg_none_of X G z_range, PySem.W.mg_none_of X G z_zip, PySem.W.mg_none_of X G z_enumerate, PySem.W.mg_none_of X G z_sum, PySem.W.mg_none_of X G z_all, PySem.W.mg_none_of X G z_tuple, PySem.W.mg_none_of X G z_list, PySem.W.mg_none_of X G z_isinstance, PySem.W.mg_none_of X G z_int, PySem.W.mg_none_of X G z_bool, PySem.W.mg_none_of X G z_str, PySem.W.mg_none_of X G z_type⟩
  refine ⟨PySem.W.fnOf "law" "law" (defArgs s_law) (defBody s_law) (defScope s_law) .none kV9 dc9 pm9 an9 cd9 ct9, fun s v => .of_eq rfl, fun base _ _ => ?_⟩
  have g1 := ok_value (P := l.prog) (w := w) (base := base) (k := 0) F1 B
  have g2 := ok_opposite (P := l.prog) (w := w) (base := base) (k := 0) F2 B
  have g3 := ok_put_in (P := l.prog) (w := w) (base := base) (k := 1) F3 B (calMk g1 m1 k1 b1 (Nat.le_refl _))
  have g4 := ok__law_at (P := l.prog) (w := w) (base := base) (k := 0) F4 B
  have g5 := ok__law_whole (P := l.prog) (w := w) (base := base) (k := 0) F5 B
  have g6 := ok__law_value (P := l.prog) (w := w) (base := base) (k := 0) F6 B
  have g7 := ok__law_number (P := l.prog) (w := w) (mg := mg) (base := base) (k := 0) F7
  have g8 := ok__law_is_sum (P := l.prog) (w := w) (base := base) (k := 1) F8 B (calMk g5 m5 k5 b5 (Nat.le_refl _))
  exact ok_law (k := 2) F9 B (calMk g4 m4 k4 b4 (by decide)) (calMk g7 m7 k7 b7 (by decide)) (calMk g5 m5 k5 b5 (by decide)) (calMk g6 m6 k6 b6 (by decide)) (calMk g8 m8 k8 b8 (by decide)) (calMk g1 m1 k1 b1 (by decide)) (calMk g2 m2 k2 b2 (by decide)) (calMk g3 m3 k3 b3 (by decide))
theorem walk {l : PySem.W.OpenLaw} {q : Program} {loose : List Str} {XP : (Str → Option Value) → Heap → Prop} {YP : World → Heap → Prop} {d : DefRec} {K : Params → PySem.W.Frag} (hn : l.most = some 63) (hdf : d.params.defaults = [])
    (hY : ∀ (w : World) (h : Heap), YP w h → (K w.params).In h)
    (F : ∀ (w : World) (mg : Str → Option Value) (fa : Addr) (h : Heap), (K w.params).In h → h.Ns mainGlobals mg → mg d.name = some (.ref fa) →
      ∃ fd : FuncData, (∀ (s : Shared) (u : Value), BindsTo s fd ⟨[u], []⟩ [("_law_script", u)]) ∧ ∀ base : Heap, (K w.params).In base → base.Ns mainGlobals mg → FnOk l.prog w (K w.params) mg base CX0 3 fa fd ["_law_script"] (spLaw (K w.params))) :
    PySem.W.WalkO q loose XP YP l.row.toRowW d [] (fun f vs => PySem.call f vs) :=
  L2.walk_of (n := 63) (k := 3) (x := "_law_script") (CX := fun _ => CX0) (sp := fun w => spLaw (K w.params)) hn (by decide) hdf ⟨rfl, by decide, by decide⟩ hY F (fun _ _ a ns hl _ hS => ⟨a, ns, rfl, hS, hl, fun _ => rfl⟩) fun _ _ _ _ _ z => z
end LW
open PySem PySem.W PyProof.Rows
set_option maxRecDepth 100000 in
set_option maxHeartbeats 0 in
theorem PySem.Challenge.cw_loopwords_k01_sums_holds : PySem.Challenge.rw_loopwords_k01_sums.Holds := by
  w_on; o_law; k_head; (case hw => w_witness2)
  k_fill
  refine LW.walk (l := PySem.Challenge.rw_loopwords_k01_sums) rfl rfl (fun w h Y => PySem.W.kIn_of Y) ?F
  case F =>
    intro w mg fa h KX G hmg
    refine' LW.all_mk KX G hmg ?a1 ?l1 ?c1 ?k1 ?a2 ?l2 ?c2 ?k2 ?a3 ?l3 ?c3 ?k3 ?a4 ?l4 ?c4 ?k4 ?a5 ?l5 ?c5 ?k5 ?a6 ?l6 ?c6 ?k6 ?a7 ?l7 ?c7 ?k7 ?a8 ?l8 ?c8 ?k8 ?a9 ?l9 ?c9 ?k9 ?z_len ?z_range ?z_zip ?z_enumerate ?z_sum ?z_all ?z_tuple ?z_list ?z_isinstance ?z_int ?z_bool ?z_str ?z_type
    (case a1 => k_is)
    (case l1 => k_is)
    (case c1 => k_is)
    (case k1 => k_is)
    (case a2 => k_is)
    (case l2 => k_is)
    (case c2 => k_is)
    (case k2 => k_is)
    (case a3 => k_is)
    (case l3 => k_is)
    (case c3 => k_is)
    (case k3 => k_is)
    (case a4 => k_is)
    (case l4 => k_is)
    (case c4 => k_is)
    (case k4 => k_is)
    (case a5 => k_is)
    (case l5 => k_is)
    (case c5 => k_is)
    (case k5 => k_is)
    (case a6 => k_is)
    (case l6 => k_is)
    (case c6 => k_is)
    (case k6 => k_is)
    (case a7 => k_is)
    (case l7 => k_is)
    (case c7 => k_is)
    (case k7 => k_is)
    (case a8 => k_is)
    (case l8 => k_is)
    (case c8 => k_is)
    (case k8 => k_is)
    (case a9 => k_is)
    (case l9 => k_is)
    (case c9 => k_is)
    (case k9 => k_is)
    (case z_len => k_is)
    (case z_range => k_is)
    (case z_zip => k_is)
    (case z_enumerate => k_is)
    (case z_sum => k_is)
    (case z_all => k_is)
    (case z_tuple => k_is)
    (case z_list => k_is)
    (case z_isinstance => k_is)
    (case z_int => k_is)
    (case z_bool => k_is)
    (case z_str => k_is)
    (case z_type => k_is)
