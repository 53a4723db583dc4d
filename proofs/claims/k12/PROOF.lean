import PyProof.Rows.All
import Wide.All
import OpenK.AllK
import Wide.FinOn
import PyProof.EqAt
import PyProof.EqKinds
import PyProof.TupleCall
import HandS.ForMost
import HandS.ForExc
import HandS.Evl
import HandS.Codes
import HandS.IsInst
import HandS.Property
import HandS.Style
import HandS.RevRange
import HandS.Nested
import HandS.Flow
import HandS.ExcIs
import HandS.RaiseMore
import HandS.FStr
import HandS.Property
import HandS.Nested
import HandS.RevRange
import HandS.EndTab
import HandS.ExcValue
import HandS.ExcInit
import HandS.FStrTup
import HandS.Walk
import HandS.Dict
import HandS.Text
import HandS.More
import HandS.Defaults
import HandS.Deep
import HandS.DeepEq
import HandS.SetFor
import HandS.StrSplit
import HandS.TryMany
import KE.KExcIs
import KE.KExcSuper
import PyProof.Rows.RegStrFacts
import KE.DataFind
import PySem.Challenge.RW_turnstile_k12_whole_rows_played
set_option Elab.async false
set_option linter.all false
set_option maxRecDepth 100000
set_option maxHeartbeats 1000000
namespace Tk
open PySem PySem.Spec PyProof.Rows L2 Evl
/-! Big steps over the readings: what a block hands back, or with which slots it falls through; the heap only grows. -/
def Rt (t : TS) (σ : L2.St) (H : Hp) (v : V) : Prop := ∀ H1, Ex H H1 → ∀ D : Ends, (∀ H2, Ex H1 H2 → D.rt v H2) → t D σ H1
def Nx (t : TS) (σ : L2.St) (H : Hp) (σ' : L2.St) : Prop := ∀ H1, Ex H H1 → ∀ D : Ends, (∀ H2, Ex H1 H2 → D.nx σ' H2) → t D σ H1
/-- .. a value by what is true of it and the heap -/
def RtW (t : TS) (σ : L2.St) (H : Hp) (W : V → Hp → Prop) : Prop := ∀ H1, Ex H H1 → ∀ D : Ends, (∀ v H2, Ex H1 H2 → W v H2 → D.rt v H2) → t D σ H1
def EvW (te : TE) (σ : L2.St) (H : Hp) (W : V → Hp → Prop) : Prop := ∀ H1, Ex H H1 → ∀ Q : VK, (∀ v H2, Ex H1 H2 → W v H2 → Q v H2) → te σ H1 Q
section
variable {σ σ' σ'' : L2.St} {H H' : Hp} {v x y z : V} {te ta tb : TE} {t u tw tz : TS} {c c2 : TT} {b : Bool} {W : V → Hp → Prop} {K : PySem.W.Frag} {r : R2}
theorem Rt.mono (e : Ex H H') (h : Rt t σ H v) : Rt t σ H' v := fun H1 a D q => h H1 (e.trans a) D q
theorem Nx.mono (e : Ex H H') (h : Nx t σ H σ') : Nx t σ H' σ' := fun H1 a D q => h H1 (e.trans a) D q
theorem Rt.w (h : Rt t σ H v) (hw : ∀ H1, Ex H H1 → W v H1) : RtW t σ H W := fun H1 e D q => h H1 e D fun H2 e2 => q v H2 e2 (hw H2 (e.trans e2))
theorem Rt.is (h : Rt t σ H x) (e : x = y) : Rt t σ H y := e ▸ h
theorem Nx.is (h : Nx t σ H σ') (e : σ' = σ'') : Nx t σ H σ'' := e ▸ h
theorem rt_ret (h : Ev te σ H v) : Rt (tRet te) σ H v := fun H1 e D q => h H1 e _ fun H2 e2 => q H2 e2
theorem rt_retN : Rt tRetN σ H .non := fun H1 _ D q => q H1 (Ex.refl H1)
theorem rtw_ret (h : EvW te σ H W) : RtW (tRet te) σ H W := fun H1 e D q => h H1 e _ fun v H2 e2 w => q v H2 e2 w
theorem rt_seq (h : Nx t σ H σ') (k : Rt u σ' H v) : Rt (tSeq t u) σ H v := fun H1 e D q => h H1 e { D with nx := u D } fun H2 e2 => k H2 (e.trans e2) D fun H3 e3 => q H3 (e2.trans e3)
theorem rtw_seq (h : Nx t σ H σ') (k : RtW u σ' H W) : RtW (tSeq t u) σ H W := fun H1 e D q => h H1 e { D with nx := u D } fun H2 e2 => k H2 (e.trans e2) D fun v H3 e3 w => q v H3 (e2.trans e3) w
theorem rt_now (h : Rt t σ H v) : Rt (tSeq t u) σ H v := fun H1 e D q => h H1 e { D with nx := u D } q
theorem rtw_now (h : RtW t σ H W) : RtW (tSeq t u) σ H W := fun H1 e D q => h H1 e { D with nx := u D } q
theorem nx_seq (h : Nx t σ H σ') (k : Nx u σ' H σ'') : Nx (tSeq t u) σ H σ'' := fun H1 e D q => h H1 e { D with nx := u D } fun H2 e2 => k H2 (e.trans e2) D fun H3 e3 => q H3 (e2.trans e3)
theorem nx_next : Nx tNext σ H σ := fun H1 _ D q => q H1 (Ex.refl H1)
theorem nx_asg {i : Nat} (h : Ev te σ H v) : Nx (tAsg te (gName i)) σ H (σ.set i (some v)) := fun H1 e D q => h H1 e _ fun H2 e2 => q H2 e2
theorem nx_drop (h : Ev te σ H v) : Nx (tDrop te) σ H σ := fun H1 e D q => h H1 e _ fun H2 e2 => q H2 e2
theorem nx_aug {i : Nat} {f : Int → Int → Int} {a d : Int} (hx : σ[i]? = some (some (.int a))) (h : Ev te σ H (.int d)) : Nx (tAug i te (ipI f)) σ H (σ.set i (some (.int (f a d)))) := fun H1 e D q =>
  ⟨.int a, hx, h H1 e _ fun H2 e2 => ⟨a, d, rfl, rfl, q H2 e2⟩⟩
theorem rt_if (h : EvT c σ H b) (h1 : b = true → Rt t σ H v) (h2 : b = false → Rt u σ H v) : Rt (tIfS c t u) σ H v := fun H1 e D q => h H1 e _ fun H2 e2 => by
  cases b with
  | true =>
    show t D σ H2
    exact h1 rfl H2 (e.trans e2) D fun H3 e3 => q H3 (e2.trans e3)
  | false =>
    show u D σ H2
    exact h2 rfl H2 (e.trans e2) D fun H3 e3 => q H3 (e2.trans e3)
theorem rtw_if (h : EvT c σ H b) (h1 : b = true → RtW t σ H W) (h2 : b = false → RtW u σ H W) : RtW (tIfS c t u) σ H W := fun H1 e D q => h H1 e _ fun H2 e2 => by
  cases b with
  | true =>
    show t D σ H2
    exact h1 rfl H2 (e.trans e2) D fun v H3 e3 w => q v H3 (e2.trans e3) w
  | false =>
    show u D σ H2
    exact h2 rfl H2 (e.trans e2) D fun v H3 e3 w => q v H3 (e2.trans e3) w
theorem nx_if (h : EvT c σ H b) (h1 : b = true → Nx t σ H σ') (h2 : b = false → Nx u σ H σ') : Nx (tIfS c t u) σ H σ' := fun H1 e D q => h H1 e _ fun H2 e2 => by
  cases b with
  | true =>
    show t D σ H2
    exact h1 rfl H2 (e.trans e2) D fun H3 e3 => q H3 (e2.trans e3)
  | false =>
    show u D σ H2
    exact h2 rfl H2 (e.trans e2) D fun H3 e3 => q H3 (e2.trans e3)
/-- if c: leaves; rest -/
theorem rt_ifseq (h : EvT c σ H b) (h1 : b = true → Rt t σ H v) (h2 : b = false → Rt tz σ H v) : Rt (tSeq (tIfS c t tNext) tz) σ H v := fun H1 e D q => h H1 e _ fun H2 e2 => by
  cases b with
  | true =>
    show t { D with nx := tz D } σ H2
    exact h1 rfl H2 (e.trans e2) _ fun H3 e3 => q H3 (e2.trans e3)
  | false =>
    show tz D σ H2
    exact h2 rfl H2 (e.trans e2) D fun H3 e3 => q H3 (e2.trans e3)
theorem rtw_ifseq (h : EvT c σ H b) (h1 : b = true → RtW t σ H W) (h2 : b = false → RtW tz σ H W) : RtW (tSeq (tIfS c t tNext) tz) σ H W := fun H1 e D q => h H1 e _ fun H2 e2 => by
  cases b with
  | true =>
    show t { D with nx := tz D } σ H2
    exact h1 rfl H2 (e.trans e2) _ fun v H3 e3 w => q v H3 (e2.trans e3) w
  | false =>
    show tz D σ H2
    exact h2 rfl H2 (e.trans e2) D fun v H3 e3 w => q v H3 (e2.trans e3) w
theorem Rt.fin {Q : VK} {N : L2.St → Hp → Prop} (h : Rt t σ H v) (k : RetV v H Q) : t { nx := N, rt := Q } σ H := h H (Ex.refl H) _ fun H2 e => k H2 e
theorem RtW.fin {Q : VK} {N : L2.St → Hp → Prop} (h : RtW t σ H W) (k : ∀ v H2, Ex H H2 → W v H2 → Q v H2) : t { nx := N, rt := Q } σ H := h H (Ex.refl H) _ fun v H2 e w => k v H2 e w
/-! loops whose turns are known: s i are the slots ahead of turn i -/
def GNx (g : TG) (u : TS) (x : V) (σ : L2.St) (H : Hp) (σ' : L2.St) : Prop := ∀ H1, Ex H H1 → ∀ D : Ends, (∀ H2, Ex H1 H2 → D.nx σ' H2) → g x σ H1 fun σ2 H2 => u D σ2 H2
def GRtW (g : TG) (u : TS) (x : V) (σ : L2.St) (H : Hp) (W : V → Hp → Prop) : Prop := ∀ H1, Ex H H1 → ∀ D : Ends, (∀ v H2, Ex H1 H2 → W v H2 → D.rt v H2) → g x σ H1 fun σ2 H2 => u D σ2 H2
structure Gen (J : It) (items : Nat → V) (n : Nat) (H : Hp) : Prop where
  go : ∀ i H1, Ex H H1 → i < n → J.go i H1
  yld : ∀ i x H1 H2, Ex H H1 → i < n → J.yld i H1 x H2 → H2 = H1 ∧ x = items i
  stop : ∀ H1, Ex H H1 → J.stop n H1
theorem gnx_name {j : Nat} (h : Nx u (σ.set j (some x)) H σ') : GNx (gName j) u x σ H σ' := fun H1 e D q => h H1 e D q
theorem grt_name {j : Nat} (h : Rt u (σ.set j (some x)) H v) : GRtW (gName j) u x σ H (fun v' _ => v' = v) := fun H1 e D q => h H1 e D fun H2 e2 => q v H2 e2 rfl
theorem grtw_name {j : Nat} (h : RtW u (σ.set j (some x)) H W) : GRtW (gName j) u x σ H W := fun H1 e D q => h H1 e D q
theorem gen_r {lo : Int} {n : Nat} : Gen (Itr lo n) (fun i => .int (lo + (i : Int))) n H := ⟨fun _ _ _ h => h, fun _ _ _ _ _ _ y => y, fun _ _ => Nat.le_refl _⟩
theorem gen_c {lo d : Int} {n : Nat} : Gen (Itc lo d n) (fun i => .int (lo + (i : Nat) * d)) n H := ⟨fun _ _ _ h => h, fun _ _ _ _ _ _ y => y, fun _ _ => Nat.le_refl _⟩
theorem gen_l {a : Addr} {xs : List V} {d : V} (h : SqL K H a xs) : Gen (Itl K a) (fun i => xs.getD i d) xs.length H :=
  ⟨fun i H1 e hi => ⟨xs, xs[i], ex_l e h, by simp [hi]⟩, fun i x H1 H2 e hi y => by
    obtain ⟨y1, y2⟩ := y
    refine ⟨y1, ?_⟩
    have z : xs[i]? = some x := y2 xs (ex_l e h)
    rw [List.getD_eq_getElem?_getD, z]
    rfl, fun H1 e => ⟨xs, ex_l e h, Nat.le_refl _⟩⟩
theorem gen_t {a : Addr} {xs : List V} {d : V} (h : SqT K H a xs) : Gen (Itt K a) (fun i => xs.getD i d) xs.length H :=
  ⟨fun i H1 e hi => ⟨xs, xs[i], ex_t e h, by simp [hi]⟩, fun i x H1 H2 e hi y => by
    obtain ⟨y1, y2⟩ := y
    refine ⟨y1, ?_⟩
    have z : xs[i]? = some x := y2 xs (ex_t e h)
    rw [List.getD_eq_getElem?_getD, z]
    rfl, fun H1 e => ⟨xs, ex_t e h, Nat.le_refl _⟩⟩
theorem for_nx {J : It} {items : Nat → V} {n : Nat} {g : TG} {H1 : Hp} {D : Ends} (s : Nat → L2.St) (G : Gen J items n H) (e : Ex H H1) (hs : ∀ i, i < n → GNx g u (items i) (s i) H (s (i + 1))) (q : ∀ H2, Ex H1 H2 → D.nx (s n) H2) :
    ∃ W : Nat → Nat → L2.St → Hp → Prop, (∃ m, W 0 m (s 0) H1) ∧ ∀ i m σ H, W i m σ H →
      (J.stop i H ∧ D.nx σ H) ∨ (J.go i H ∧ ∃ N : L2.St → Hp → Prop, (∀ σ' H', N σ' H' → ∃ m', m' < m ∧ W (i + 1) m' σ' H') ∧ ∀ x H', J.yld i H x H' → g x σ H' fun σ2 H2 => u { D with nx := N, ct := N, bk := D.nx } σ2 H2) := by
  refine ⟨fun i m σ H2 => m = n - i ∧ i ≤ n ∧ σ = s i ∧ Ex H1 H2, ⟨n, by simp, Nat.zero_le _, rfl, Ex.refl _⟩, ?_⟩
  rintro i m σ H2 ⟨rfl, hi, rfl, e2⟩
  by_cases hlt : i < n
  · refine .inr ⟨G.go i H2 (e.trans e2) hlt, fun σ' H' => σ' = s (i + 1) ∧ Ex H1 H', fun σ' H' p => ⟨n - (i + 1), by omega, rfl, hlt, p.1, p.2⟩, fun x H' y => ?_⟩
    obtain ⟨rfl, rfl⟩ := G.yld i x H2 H' (e.trans e2) hlt y
    exact hs i hlt _ (e.trans e2) _ fun H3 e3 => ⟨rfl, e2.trans e3⟩
  · obtain rfl : i = n := by omega
    exact .inl ⟨G.stop _ (e.trans e2), q _ e2⟩
theorem for_rt {J : It} {items : Nat → V} {n k : Nat} {g : TG} {H1 : Hp} {D : Ends} (s : Nat → L2.St) (G : Gen J items n H) (e : Ex H H1) (hk : k < n) (hs : ∀ i, i < k → GNx g u (items i) (s i) H (s (i + 1))) (hr : GRtW g u (items k) (s k) H W) (q : ∀ v H2, Ex H1 H2 → W v H2 → D.rt v H2) :
    ∃ W : Nat → Nat → L2.St → Hp → Prop, (∃ m, W 0 m (s 0) H1) ∧ ∀ i m σ H, W i m σ H →
      (J.stop i H ∧ D.nx σ H) ∨ (J.go i H ∧ ∃ N : L2.St → Hp → Prop, (∀ σ' H', N σ' H' → ∃ m', m' < m ∧ W (i + 1) m' σ' H') ∧ ∀ x H', J.yld i H x H' → g x σ H' fun σ2 H2 => u { D with nx := N, ct := N, bk := D.nx } σ2 H2) := by
  refine ⟨fun i m σ H2 => m = n - i ∧ i ≤ k ∧ σ = s i ∧ Ex H1 H2, ⟨n, by simp, Nat.zero_le _, rfl, Ex.refl _⟩, ?_⟩
  rintro i m σ H2 ⟨rfl, hi, rfl, e2⟩
  by_cases hlt : i < k
  · refine .inr ⟨G.go i H2 (e.trans e2) (by omega), fun σ' H' => σ' = s (i + 1) ∧ Ex H1 H', fun σ' H' p => ⟨n - (i + 1), by omega, rfl, hlt, p.1, p.2⟩, fun x H' y => ?_⟩
    obtain ⟨rfl, rfl⟩ := G.yld i x H2 H' (e.trans e2) (by omega) y
    exact hs i hlt _ (e.trans e2) _ fun H3 e3 => ⟨rfl, e2.trans e3⟩
  · obtain rfl : i = k := by omega
    refine .inr ⟨G.go _ H2 (e.trans e2) hk, fun _ _ => False, fun _ _ p => p.elim, fun x H' y => ?_⟩
    obtain ⟨rfl, rfl⟩ := G.yld _ x H2 H' (e.trans e2) hk y
    exact hr _ (e.trans e2) _ fun v H3 e3 w => q v H3 (e2.trans e3) w
/-- what a for walks, told at a heap -/
def EvI (wi : TI) (σ : L2.St) (H : Hp) (items : Nat → V) (n : Nat) : Prop := ∀ H1, Ex H H1 → ∀ R : It → Hp → Prop, (∀ J H2, Ex H1 H2 → Gen J items n H2 → R J H2) → wi σ H1 R
theorem ei_r1 {ta : TA} {n : Int} (h : EvA ta σ H [.int n]) (h1 : -(2 ^ 62) ≤ n) (h2 : n < 2 ^ 62) : EvI (iRng1 ta) σ H (fun i => .int (0 + (i : Int))) n.toNat := fun H1 e R q =>
  h H1 e _ fun H2 e2 => ⟨n, rfl, h1, h2, q _ H2 e2 gen_r⟩
theorem ei_r2 {ta : TA} {a n : Int} (h : EvA ta σ H [.int a, .int n]) (h1 : -(2 ^ 62) ≤ a ∧ a < 2 ^ 62 ∧ -(2 ^ 62) ≤ n ∧ n < 2 ^ 62) : EvI (iRng2 ta) σ H (fun i => .int (a + (i : Int))) (n - a).toNat := fun H1 e R q =>
  h H1 e _ fun H2 e2 => ⟨a, n, rfl, h1, q _ H2 e2 gen_r⟩
theorem ei_r3 {ta : TA} {a n d : Int} {m : Nat} (h : EvA ta σ H [.int a, .int n, .int d]) (h1 : RgC a n d m) : EvI (iRng3 ta) σ H (fun i => .int (a + (i : Nat) * d)) m := fun H1 e R q =>
  h H1 e _ fun H2 e2 => ⟨a, n, d, m, rfl, h1, q _ H2 e2 gen_c⟩
theorem ei_l {a : Addr} {xs : List V} (d : V) (h : Ev te σ H (.ref a)) (hx : SqL K H a xs) : EvI (iList K te) σ H (fun i => xs.getD i d) xs.length := fun H1 e R q =>
  h H1 e _ fun H2 e2 => ⟨a, rfl, ⟨xs, ex_l (e.trans e2) hx⟩, q _ H2 e2 (gen_l (ex_l (e.trans e2) hx))⟩
theorem ei_t {a : Addr} {xs : List V} (d : V) (h : Ev te σ H (.ref a)) (hx : SqT K H a xs) : EvI (iTup K te) σ H (fun i => xs.getD i d) xs.length := fun H1 e R q =>
  h H1 e _ fun H2 e2 => ⟨a, rfl, ⟨xs, ex_t (e.trans e2) hx⟩, q _ H2 e2 (gen_t (ex_t (e.trans e2) hx))⟩
/-- over a new tuple -/
theorem ei_tN {xs : List V} (d : V) (h : EvU te σ H xs) : EvI (iTup K te) σ H (fun i => xs.getD i d) xs.length := fun H1 e R q =>
  h H1 e _ fun p H2 _ e2 hp => ⟨p, rfl, ⟨xs, st_of hp⟩, q _ H2 e2 (gen_t (st_of hp))⟩
theorem GNx.mono {g : TG} (e : Ex H H') (h : GNx g u x σ H σ') : GNx g u x σ H' σ' := fun H1 a D q => h H1 (e.trans a) D q
theorem GRtW.mono {g : TG} (e : Ex H H') (h : GRtW g u x σ H W) : GRtW g u x σ H' W := fun H1 a D q => h H1 (e.trans a) D q
theorem nx_for {wi : TI} {items : Nat → V} {n : Nat} {g : TG} (s : Nat → L2.St) (h : EvI wi (s 0) H items n) (hs : ∀ i, i < n → GNx g u (items i) (s i) H (s (i + 1))) : Nx (tFor wi g u) (s 0) H (s n) := fun H1 e D q =>
  h H1 e _ fun J H2 e2 G => for_nx s G (Ex.refl H2) (fun i hi => (hs i hi).mono (e.trans e2)) fun H3 e3 => q H3 (e2.trans e3)
theorem rtw_for {wi : TI} {items : Nat → V} {n : Nat} {g : TG} (k : Nat) (s : Nat → L2.St) (h : EvI wi (s 0) H items n) (hk : k < n) (hs : ∀ i, i < k → GNx g u (items i) (s i) H (s (i + 1))) (hr : GRtW g u (items k) (s k) H W) : RtW (tFor wi g u) (s 0) H W := fun H1 e D q =>
  h H1 e _ fun J H2 e2 G => for_rt s G (Ex.refl H2) hk (fun i hi => (hs i hi).mono (e.trans e2)) (hr.mono (e.trans e2)) fun v H3 e3 w => q v H3 (e2.trans e3) w
theorem RtW.toV (h : RtW t σ H (fun v' _ => v' = v)) : Rt t σ H v := fun H1 e D q => h H1 e D fun v' H2 e2 w => by rw [w]; exact q H2 e2
theorem Rt.toW (h : Rt t σ H v) : RtW t σ H (fun v' _ => v' = v) := fun H1 e D q => h H1 e D fun H2 e2 => q v H2 e2 rfl
theorem rt_for {wi : TI} {items : Nat → V} {n : Nat} {g : TG} (k : Nat) (s : Nat → L2.St) (h : EvI wi (s 0) H items n) (hk : k < n) (hs : ∀ i, i < k → GNx g u (items i) (s i) H (s (i + 1))) (hr : GRtW g u (items k) (s k) H (fun v' _ => v' = v)) : Rt (tFor wi g u) (s 0) H v :=
  (rtw_for k s h hk hs hr).toV
theorem nx_while (m : Nat) (s : Nat → L2.St) (hs : ∀ i, i < m → EvT c (s i) H true ∧ Nx u (s i) H (s (i + 1))) (hd : EvT c (s m) H false) : Nx (tWhile c u) (s 0) H (s m) := fun H1 e D q =>
  ⟨fun k σ H2 => ∃ i, i ≤ m ∧ k = m - i ∧ σ = s i ∧ Ex H1 H2, ⟨m, 0, Nat.zero_le _, rfl, rfl, Ex.refl _⟩, fun k σ H2 ⟨i, hi, hk, hσ, e2⟩ => by
    subst hk hσ
    by_cases hlt : i < m
    · obtain ⟨h1, h2⟩ := hs i hlt
      refine h1 H2 (e.trans e2) _ fun H3 e3 => ?_
      refine ⟨fun σ' H' => σ' = s (i + 1) ∧ Ex H1 H', fun σ' H' p => ⟨m - (i + 1), by omega, i + 1, hlt, rfl, p.1, p.2⟩, ?_⟩
      exact h2 H3 ((e.trans e2).trans e3) _ fun H4 e4 => ⟨rfl, (e2.trans e3).trans e4⟩
    · obtain rfl : i = m := by omega
      refine hd H2 (e.trans e2) _ fun H3 e3 => ?_
      exact q H3 (e2.trans e3)⟩
/-! tuples as targets, items of displays -/
theorem gnx_tup2 {i j : Nat} {a : Addr} {y : V} (h : SqT K H a [x, y]) (k : Nx u ((σ.set i (some x)).set j (some y)) H σ') : GNx (gTup K 2 (gCons (gName i) (gCons (gName j) gNil))) u (.ref a) σ H σ' := fun H1 e D q =>
  ⟨a, [x, y], rfl, ex_t e h, rfl, x, [y], rfl, y, [], rfl, rfl, k H1 e D q⟩
/-- (..)[i], [..][i] of a display -/
theorem ev_ixNL {xs : List V} {i : Int} (ha : EvL ta σ H xs) (hb : Ev tb σ H (.int i)) (hv : atI xs i = some v) : Ev (tOp (rIxL K) ta tb) σ H v := fun H1 e Q q =>
  ha H1 e _ fun p H2 _ e2 hp => hb H2 (e.trans e2) _ fun H3 e3 => ⟨p, xs, i, v, rfl, rfl, sq_of (e3 p _ hp), hv, q H3 (e2.trans e3)⟩
theorem ev_ixL {p : Addr} {xs : List V} {i : Int} (ha : Ev ta σ H (.ref p)) (hb : Ev tb σ H (.int i)) (hx : SqL K H p xs) (hv : atI xs i = some v) : Ev (tOp (rIxL K) ta tb) σ H v := ev_op ha hb (rv_ixL hx hv)
theorem ev_ixT {p : Addr} {xs : List V} {i : Int} (ha : Ev ta σ H (.ref p)) (hb : Ev tb σ H (.int i)) (hx : SqT K H p xs) (hv : atI xs i = some v) : Ev (tOp (rIxT K) ta tb) σ H v := ev_op ha hb (rv_ixT hx hv)
/-- is None, is not None -/
theorem ev_isN (ha : Ev ta σ H x) : Ev (tIsN ta) σ H (.bl (decide (x = .non))) := fun H1 e Q q => ha H1 e _ fun H2 e2 => q H2 e2
theorem ev_notN (ha : Ev ta σ H x) : Ev (tNotN ta) σ H (.bl (!decide (x = .non))) := fun H1 e Q q => ha H1 e _ fun H2 e2 => q H2 e2
/-- a < b < c -/
theorem ev_chain {tc : TE} {r' : R2} {w : V} {b1 b2 : Bool} (ha : Ev ta σ H x) (hb : Ev tb σ H y) (hr : RV r x y H (.bl b1)) (hc : b1 = true → Ev tc σ H w) (hr' : b1 = true → RV r' y w H (.bl b2)) : Ev (tChain r r' ta tb tc) σ H (.bl (b1 && b2)) := fun H1 e Q q =>
  ha H1 e _ fun H2 e2 => hb H2 (e.trans e2) _ fun H3 e3 => hr H3 ((e.trans e2).trans e3) _ fun H4 e4 => ⟨b1, rfl, by
    cases b1 with
    | true =>
      show tc σ H4 fun w' H5 => r' y w' H5 Q
      exact hc rfl H4 (((e.trans e2).trans e3).trans e4) _ fun H5 e5 => hr' rfl H5 ((((e.trans e2).trans e3).trans e4).trans e5) Q fun H6 e6 => q H6 ((((e2.trans e3).trans e4).trans e5).trans e6)
    | false =>
      show Q (.bl false) H4
      exact q H4 ((e2.trans e3).trans e4)⟩
/-- calls of built-ins by values -/
theorem ev_max {i j : Int} (ha : Ev ta σ H (.int i)) (hb : Ev tb σ H (.int j)) : Ev (tCB (fun xs H Q => ∃ i j, xs = [.int i, .int j] ∧ Q (.int (if j > i then j else i)) H) (tCons ta (tCons tb tNil))) σ H (.int (max i j)) := fun H1 e Q q =>
  ha H1 e _ fun H2 e2 => hb H2 (e.trans e2) _ fun H3 e3 => ⟨i, j, rfl, by
    have z : (if j > i then j else i) = max i j := by
      by_cases h : j > i
      · rw [if_pos h]; omega
      · rw [if_neg h]; omega
    rw [z]
    exact q H3 (e2.trans e3)⟩
theorem ev_min {i j : Int} (ha : Ev ta σ H (.int i)) (hb : Ev tb σ H (.int j)) : Ev (tCB (fun xs H Q => ∃ i j, xs = [.int i, .int j] ∧ Q (.int (if j < i then j else i)) H) (tCons ta (tCons tb tNil))) σ H (.int (min i j)) := fun H1 e Q q =>
  ha H1 e _ fun H2 e2 => hb H2 (e.trans e2) _ fun H3 e3 => ⟨i, j, rfl, by
    have z : (if j < i then j else i) = min i j := by
      by_cases h : j < i
      · rw [if_pos h]; omega
      · rw [if_neg h]; omega
    rw [z]
    exact q H3 (e2.trans e3)⟩
theorem ev_intB {k : Bool} (ha : Ev ta σ H (.bl k)) : Ev (tCB (fun xs H Q => (∃ i, xs = [.int i] ∧ Q (.int i) H) ∨ ∃ k, xs = [.bl k] ∧ Q (.int (if k then 1 else 0)) H) (tCons ta tNil)) σ H (.int (if k then 1 else 0)) := fun H1 e Q q =>
  ha H1 e _ fun H2 e2 => .inr ⟨k, rfl, q H2 e2⟩
theorem ev_lenL {p : Addr} {xs : List V} (ha : Ev ta σ H (.ref p)) (hx : SqL K H p xs) : Ev (tCB (fun xs H Q => ∃ p ys, xs = [.ref p] ∧ (SqL K H p ys ∨ SqT K H p ys) ∧ Q (.int ys.length) H) (tCons ta tNil)) σ H (.int (xs.length : Int)) := fun H1 e Q q =>
  ha H1 e _ fun H2 e2 => ⟨p, xs, rfl, .inl (ex_l (e.trans e2) hx), q H2 e2⟩
theorem ev_lenI {p : Addr} {ns : List Int} (ha : Ev ta σ H (.ref p)) (hx : SqL K H p (ns.map V.int)) : Ev (tCB (fun xs H Q => ∃ p ys, xs = [.ref p] ∧ (SqL K H p ys ∨ SqT K H p ys) ∧ Q (.int ys.length) H) (tCons ta tNil)) σ H (.int (ns.length : Int)) := by
  have h := ev_lenL (K := K) ha hx
  rw [List.length_map] at h
  exact h
/-- a display's item -/
theorem ev_ixN {tv : TA} {vs : List V} {i : Int} (ha : EvA tv σ H vs) (hb : Ev tb σ H (.int i)) (hl : vs.length ≤ 100000) (hv : atI vs i = some v) : Ev (tOp (rIxL K) (tLst tv) tb) σ H v := ev_ixNL (el_lst ha hl) hb hv
/-- isinstance -/
theorem ev_isi {te2 : TE} {cv : V} {tv uv : Value} {k : Bool} (ha : Ev ta σ H x) (hb : Ev te2 σ H cv) (hc : ClsV cv uv) (ht : ∀ H1, Ex H H1 → TyX K H1 x tv) (hk : PySem.W.kitOne K tv uv = some k) : Ev (tCB (rIsi K) (tCons ta (tCons te2 tNil))) σ H (.bl k) := fun H1 e Q q =>
  ha H1 e _ fun H2 e2 => hb H2 (e.trans e2) _ fun H3 e3 => ⟨x, cv, tv, uv, k, rfl, hc, ht H3 ((e.trans e2).trans e3), hk, q H3 (e2.trans e3)⟩
/-- data compared -/
theorem rv_eqD {d f : PySem.PyData} (hd : ∀ H1, Ex H H1 → Dp K H1 x d) (hf : ∀ H1, Ex H H1 → Dp K H1 y f) (sd : PySem.SeqAt.shaped d = true) (sf : PySem.SeqAt.shaped f = true) : RV (rEqD K) x y H (.bl (PySem.PyData.eqv d f)) := fun H1 e Q q => ⟨d, f, hd H1 e, hf H1 e, sd, sf, q H1 (Ex.refl _)⟩
theorem rv_neD {d f : PySem.PyData} (hd : ∀ H1, Ex H H1 → Dp K H1 x d) (hf : ∀ H1, Ex H H1 → Dp K H1 y f) (sd : PySem.SeqAt.shaped d = true) (sf : PySem.SeqAt.shaped f = true) : RV (rNeD K) x y H (.bl (!PySem.PyData.eqv d f)) := fun H1 e Q q => ⟨d, f, hd H1 e, hf H1 e, sd, sf, q H1 (Ex.refl _)⟩
/-! promises of defs that hand back a value and change nothing: R arguments heap value -/
def spF (R : List V → Hp → V → Prop) : Sp := fun vs H Q _ => ∃ v, (∀ H1, Ex H H1 → R vs H1 v) ∧ RetV v H Q
theorem ev_callF {R : List V → Hp → V → Prop} {ta : TA} {vs : List V} {E : XK} (h : EvA ta σ H vs) (hR : ∀ H1, Ex H H1 → R vs H1 v) : Ev (tCall (spF R) [] E ta) σ H v := fun H1 e Q q =>
  h H1 e _ fun H2 e2 => by
    rw [List.append_nil]
    exact ⟨v, fun H3 e3 => hR H3 ((e.trans e2).trans e3), fun H3 e3 => q H3 (e2.trans e3)⟩
/-- .. a value by what is true of it -/
def spW (R : List V → Hp → (V → Hp → Prop) → Prop) : Sp := fun vs H Q _ => ∃ W : V → Hp → Prop, (∀ H1, Ex H H1 → R vs H1 W) ∧ ∀ v H2, Ex H H2 → W v H2 → Q v H2
theorem evw_callW {R : List V → Hp → (V → Hp → Prop) → Prop} {ta : TA} {vs : List V} {E : XK} (h : EvA ta σ H vs) (hR : ∀ H1, Ex H H1 → R vs H1 W) : EvW (tCall (spW R) [] E ta) σ H W := fun H1 e Q q =>
  h H1 e _ fun H2 e2 => by
    rw [List.append_nil]
    exact ⟨W, fun H3 e3 => hR H3 ((e.trans e2).trans e3), fun v H3 e3 w => q v H3 (e2.trans e3) w⟩
theorem evw_tup {vs : List V} (h : EvU te σ H vs) : EvW te σ H (fun v H1 => ∃ p, v = .ref p ∧ H1 p = some (.tup vs)) := fun H1 e Q q => h H1 e _ fun p H2 _ e2 hp => q _ H2 e2 ⟨p, rfl, hp⟩
theorem evw_v (h : Ev te σ H v) (hw : ∀ H1, Ex H H1 → W v H1) : EvW te σ H W := fun H1 e Q q => h H1 e _ fun H2 e2 => q v H2 e2 (hw H2 (e.trans e2))
end
section
open C8 (Def Fun Cal Met Mak)
variable {P : Program} {w : World} {K : PySem.W.Frag} {mg : Str → Option Value} {base : Heap}
/-- a def that hands back a value, by its body -/
theorem calF {x : Str} {st : Stmt} {f : Addr} {fd : FuncData} {N ps : List Str} {k : Nat} {R : List V → Hp → V → Prop} (F : C8.Def K mg x st f fd) (b : Binds K fd ps []) (S : FnScope N ps (C8.fnScope st)) (len : ∀ vs H v, R vs H v → vs.length = ps.length)
    (hbody : ∀ (cdv : Value) (A : Around) (outer : List Env) (s : Shared) (H : Hp) (vs : List V) (v : V) (E : XK), Room k (A.deeper (envOfC x (C8.fnScope st) s.heap.objs.size f cdv)) → R vs H v →
      ∃ t, PSs (cxOf C8.CX0 P w K mg base N x (C8.fnScope st) f cdv A outer s H E).nox (C8.fnBody st) t ∧ Rt t (start N vs) H v) : C8.Cal P w K mg base (k + 1) x (spF R) [] :=
  C8.cal0 F b .nil S (fun vs H Q E ⟨v, h, _⟩ => len vs H v (h H (Ex.refl H))) fun cdv A outer s H vs Q E hr ⟨v, h, k⟩ => by
    obtain ⟨t, h1, h2⟩ := hbody cdv A outer s H vs v E hr (h H (Ex.refl H))
    exact ⟨t, h1, h2.fin k⟩
theorem calW {x : Str} {st : Stmt} {f : Addr} {fd : FuncData} {N ps : List Str} {k : Nat} {R : List V → Hp → (V → Hp → Prop) → Prop} (F : C8.Def K mg x st f fd) (b : Binds K fd ps []) (S : FnScope N ps (C8.fnScope st)) (len : ∀ vs H v, R vs H v → vs.length = ps.length)
    (hbody : ∀ (cdv : Value) (A : Around) (outer : List Env) (s : Shared) (H : Hp) (vs : List V) (W : V → Hp → Prop) (E : XK), Room k (A.deeper (envOfC x (C8.fnScope st) s.heap.objs.size f cdv)) → R vs H W →
      ∃ t, PSs (cxOf C8.CX0 P w K mg base N x (C8.fnScope st) f cdv A outer s H E).nox (C8.fnBody st) t ∧ RtW t (start N vs) H W) : C8.Cal P w K mg base (k + 1) x (spW R) [] :=
  C8.cal0 F b .nil S (fun vs H Q E ⟨W, h, _⟩ => len vs H W (h H (Ex.refl H))) fun cdv A outer s H vs Q E hr ⟨W, h, k⟩ => by
    obtain ⟨t, h1, h2⟩ := hbody cdv A outer s H vs W E hr (h H (Ex.refl H))
    exact ⟨t, h1, h2.fin k⟩
theorem metF {m qual : Str} {C : Addr} {st : Stmt} {f : Addr} {fd : FuncData} {N ps : List Str} {k : Nat} {R : List V → Hp → V → Prop} (c : Cls K C) (me : Meth K C m f) (F : C8.Fun K m qual st f fd) (b : Binds K fd ps []) (S : FnScope N ps (C8.fnScope st)) (len : ∀ vs H v, R vs H v → vs.length = ps.length)
    (hbody : ∀ (cdv : Value) (A : Around) (outer : List Env) (s : Shared) (H : Hp) (vs : List V) (v : V) (E : XK), Room k (A.deeper (envOfC qual (C8.fnScope st) s.heap.objs.size f cdv)) → R vs H v →
      ∃ t, PSs (cxOf C8.CX0 P w K mg base N qual (C8.fnScope st) f cdv A outer s H E).nox (C8.fnBody st) t ∧ Rt t (start N vs) H v) : C8.Met P w K mg base (k + 1) C m (spF R) [] :=
  C8.met0 c me F b S (fun vs H Q E ⟨v, h, _⟩ => len vs H v (h H (Ex.refl H))) fun cdv A outer s H vs Q E hr ⟨v, h, k⟩ => by
    obtain ⟨t, h1, h2⟩ := hbody cdv A outer s H vs v E hr (h H (Ex.refl H))
    exact ⟨t, h1, h2.fin k⟩
theorem metW {m qual : Str} {C : Addr} {st : Stmt} {f : Addr} {fd : FuncData} {N ps : List Str} {k : Nat} {R : List V → Hp → (V → Hp → Prop) → Prop} (c : Cls K C) (me : Meth K C m f) (F : C8.Fun K m qual st f fd) (b : Binds K fd ps []) (S : FnScope N ps (C8.fnScope st)) (len : ∀ vs H v, R vs H v → vs.length = ps.length)
    (hbody : ∀ (cdv : Value) (A : Around) (outer : List Env) (s : Shared) (H : Hp) (vs : List V) (W : V → Hp → Prop) (E : XK), Room k (A.deeper (envOfC qual (C8.fnScope st) s.heap.objs.size f cdv)) → R vs H W →
      ∃ t, PSs (cxOf C8.CX0 P w K mg base N qual (C8.fnScope st) f cdv A outer s H E).nox (C8.fnBody st) t ∧ RtW t (start N vs) H W) : C8.Met P w K mg base (k + 1) C m (spW R) [] :=
  C8.met0 c me F b S (fun vs H Q E ⟨W, h, _⟩ => len vs H W (h H (Ex.refl H))) fun cdv A outer s H vs Q E hr ⟨W, h, k⟩ => by
    obtain ⟨t, h1, h2⟩ := hbody cdv A outer s H vs W E hr (h H (Ex.refl H))
    exact ⟨t, h1, h2.fin k⟩
end
end Tk
namespace Tk
open PySem PySem.Spec PyProof.Rows L2 Evl
/-! del xs[:k], 0 ≤ k -/
def cutSel (c : Int) (i : Nat) : Bool := if (1 : Int) > 0 then (0 : Int) ≤ i && (i : Int) < c && ((i : Int) - 0) % 1 == 0 else c < i && (i : Int) ≤ 0 && ((0 : Int) - i) % (-1) == 0
theorem cutSel_eq (c i : Nat) : cutSel (c : Int) i = decide (i < c) := by
  unfold cutSel
  rw [if_pos (by decide)]
  have h1 : decide ((0 : Int) ≤ (i : Int)) = true := decide_eq_true (by omega)
  have h2 : (((i : Int) - 0) % 1 == 0) = true := by
    rw [Int.emod_one]
    rfl
  rw [h1, h2, Bool.true_and, Bool.and_true]
  congr 1
  exact propext (by omega)
theorem cut_from : ∀ (l : List Value) (c j : Nat), (l.zipIdx j).filterMap (fun p => if cutSel (c : Int) p.2 = true then none else some p.1) = l.drop (c - j)
  | [], c, j => by simp
  | x :: l, c, j => by
    rw [List.zipIdx_cons, List.filterMap_cons]
    have ih := cut_from l c (j + 1)
    simp only [cutSel_eq, decide_eq_true_eq] at ih ⊢
    by_cases h : j < c
    · rw [if_pos h]
      rw [ih, show c - j = (c - (j + 1)) + 1 by omega, List.drop_succ_cons]
    · rw [if_neg h]
      rw [ih, show c - (j + 1) = 0 by omega, show c - j = 0 by omega]
      rfl
theorem cut_all (l : List Value) (c : Nat) : (l.zipIdx.filterMap fun p => if cutSel (c : Int) p.2 = true then none else some p.1) = l.drop c := cut_from l c 0
section
variable {prog : Program} {w : World} {A : Around} {E : Value → Shared → Prop} {s : Shared}
theorem bounds_to {c n : Nat} (hc : c ≤ n) : sliceBounds none (some (c : Int)) none n = ((0 : Int), (c : Int), 1) := by
  simp only [sliceBounds, Option.getD_none]
  have b1 : ¬ ((c : Int) < 0) := by omega
  simp only [b1, if_false, show (1 : Int) > 0 by decide, if_true]
  congr 1
  congr 1
  omega
theorem cutGo {l sl : Addr} {its : List Value} {n : Nat} {vu : Value} {c : Nat} {Q : Unit → Shared → Prop} {os : Obj} (q1 : s.heap.get? sl = some os) (q3 : os.data = .fields #[.none, vu, .none]) (pu : IsPart vu (some (c : Int)))
    (e : s.heap.get? l = some { cls := .type "list", data := .seq its.toArray n }) (hc : c ≤ its.length) (hz : its.length ≤ sizeLine) (nstep : ¬ ((rawPart none == rawInt 0) = true))
    (h : ∀ f : Array Value → Array Value, f its.toArray = (its.drop c).toArray → Q () { s with heap := s.heap.update l (Obj.mapSeq f) }) {R : Value × Value × Value → Shared → Prop}
    (hR : R (rawPart none, rawPart (some (c : Int)), rawPart none) s) :
    wpAny (model prog w) A (if (rawPart none == rawInt 0) = true then (do rule "list.slice.step-zero"; let __r ← raiseErrorWords "ValueError" "slice step cannot be zero"; (fun _ : PUnit => do let first ← listPart (← field (.ref sl) 0); let last ← listPart (← field (.ref sl) 1); pure (first, last, rawPart none)) __r) else (do let first ← listPart (← field (.ref sl) 0); let last ← listPart (← field (.ref sl) 1); pure (first, last, rawPart none))) R E s := by
  rw [if_neg nstep]
  exact wpAny_bind (wpAny_field q1 q3 (x := .none) rfl (wpAny_bind (wpAny_listPart .none (wpAny_bind (wpAny_field q1 q3 (x := vu) rfl (wpAny_bind (wpAny_listPart pu (wpAny_pure hR))))))))
theorem cutEnd {l : Addr} {its : List Value} {n : Nat} {c : Nat} {Q : Unit → Shared → Prop} (e : s.heap.get? l = some { cls := .type "list", data := .seq its.toArray n }) (hc : c ≤ its.length) (hz : its.length ≤ sizeLine)
    (h : ∀ f : Array Value → Array Value, f its.toArray = (its.drop c).toArray → Q () { s with heap := s.heap.update l (Obj.mapSeq f) }) :
    wpAny (model prog w) A (do
      let old ← Builtin.List.listItems (.ref l)
      let x ← sliceIndices (rawPart none) (rawPart (some (c : Int))) (rawPart none) old.size
      rule "list.__delitem__.slice"
      Builtin.List.listUpdate (.ref l) fun xs => (xs.toList.zipIdx.filterMap fun p => if (if x.2.2 > 0 then x.1 ≤ p.2 && p.2 < x.2.1 && (p.2 - x.1) % x.2.2 == 0 else x.2.1 < p.2 && p.2 ≤ x.1 && (x.1 - p.2) % (-x.2.2) == 0 : Bool) = true then none else some p.1).toArray
      letGo (if (x.2.2 == 1) = true then (old.toList.zipIdx.filterMap fun p => if (if x.2.2 > 0 then x.1 ≤ p.2 && p.2 < x.2.1 && (p.2 - x.1) % x.2.2 == 0 else x.2.1 < p.2 && p.2 ≤ x.1 && (x.1 - p.2) % (-x.2.2) == 0 : Bool) = true then some p.1 else none).reverse
        else old.toList.zipIdx.filterMap fun p => if (if x.2.2 > 0 then x.1 ≤ p.2 && p.2 < x.2.1 && (p.2 - x.1) % x.2.2 == 0 else x.2.1 < p.2 && p.2 ≤ x.1 && (x.1 - p.2) % (-x.2.2) == 0 : Bool) = true then some p.1 else none)
      ret .none) (fun fin s' => ∃ v, fin = PySem.Fin.done (Flow.ret v) ∧ Q () s') E s := by
  unfold Builtin.List.listItems
  refine wpAny_bind (wpAny_bind (wpAny_seqItems e rfl (wpAny_pure ?_)))
  refine wpAny_bind (wpAny_of_eq ((sliceIndices_raw none (some (c : Int)) none its.toArray.size (by simp)).trans (congrArg (pure : Int × Int × Int → Sem (Int × Int × Int)) (bounds_to (by rw [List.size_toArray]; exact hc)))) ?_)
  refine wpAny_bind (wpAny_rule ?_)
  dsimp only
  have key : ((its.zipIdx.filterMap fun p => if (if (1 : Int) > 0 then (0 : Int) ≤ p.2 && (p.2 : Int) < (c : Int) && ((p.2 : Int) - 0) % 1 == 0 else (c : Int) < p.2 && (p.2 : Int) ≤ 0 && ((0 : Int) - p.2) % -1 == 0 : Bool) = true then none else some p.1).toArray) = (its.drop c).toArray := congrArg List.toArray (cut_all its c)
  refine wpAny_bind (m := updateSeq l _) (wpAny_updateSeq (hz := by rw [List.size_toArray]; exact hz) (_hz' := ?hz2) e rfl ?_)
  case hz2 =>
    refine Nat.le_trans (Nat.le_of_eq (congrArg Array.size key)) ?_
    rw [List.size_toArray, List.length_drop]
    omega
  refine wpAny_bind (wpAny_letGo ?_)
  exact wpAny_pure ⟨.none, rfl, h _ key⟩
theorem delItem_to {l sl : Addr} {its : List Value} {n : Nat} {vu : Value} {c : Nat} {Q : Unit → Shared → Prop} (e : s.heap.get? l = some { cls := .type "list", data := .seq its.toArray n }) (hs : s.heap.IsSliceOf sl .none vu .none) (pu : IsPart vu (some (c : Int))) (hc : c ≤ its.length) (hz : its.length ≤ sizeLine)
    (h : ∀ f : Array Value → Array Value, f its.toArray = (its.drop c).toArray → Q () { s with heap := s.heap.update l (Obj.mapSeq f) }) : wpAny (model prog w) A (delItem (.ref l) (.ref sl)) Q E s := by
  obtain ⟨os, q1, q2, q3⟩ := id hs
  have tS : s.TypeIs (.ref sl) "slice" := ⟨os, q1, q2⟩
  have tL : s.TypeIs (.ref l) "list" := ⟨_, e, rfl⟩
  refine wpAny_delItem_slot (T := "list") tL (by decide) F.slot_list_delitem (wpAny_call_entry F.slot_list_delitem tL F.entry_list_delitem ?_ (F.args_list_delitem_2 _ _))
  have nstep : ¬ ((rawPart none == rawInt 0) = true) := Bool.false_ne_true
  show wpAny _ _ (Builtin.List.listSubscript? (.ref sl) >>= _) _ _ s
  unfold Builtin.List.listSubscript?
  refine wpAny_bind (wpAny_bind (wpAny_specialOf tS slice_no_index (by simp only [Option.isNone_none, if_true]; refine wpAny_pure ?_; show wpAny _ _ (typeOf (.ref sl) >>= _) _ _ s; refine wpAny_bind (wpAny_typeOf tS ?_); rw [if_neg (by decide), listSliceParts_eq]; refine wpAny_bind (wpAny_bind (wpAny_field q1 q3 (x := .none) rfl (wpAny_bind (wpAny_listPart .none ?_)))); refine cutGo q1 q3 pu e hc hz nstep h ?_; exact cutEnd e hc hz h)))
end
section
variable {X : Cx}
def tDelTo (to te : TE) : TS := fun D σ H => to σ H fun x H1 => tPart te σ H1 fun o H2 => ∃ (l : Addr) (xs : List V) (c : Nat), x = .ref l ∧ o = some (c : Int) ∧ H2 l = some (.lst xs) ∧ c ≤ xs.length ∧ D.nx σ (upd H2 l (.lst (xs.drop c)))
theorem ps_delTo {o e : Expr} {to te : TE} {tpos p2 pos : Pos} (ho : PE X o to) (he : PE X e te) : PS X (.Delete [.Subscript o (.Slice none (some e) none p2) tpos] pos) (tDelTo to te) := by
  refine ⟨fun pins s σ H D I h => ?_⟩
  refine wpAny_Delete (wpAny_deleteEach_cons (wpAny_delete_Subscript (thn (ho.run pins s σ H _ I h) fun u s1 ⟨x, H1, I1, rx, q1⟩ => ?_)))
  refine wpAny_Slice ?_
  rw [evalPart_none]
  refine wpAny_pure (thn ((po_some he).run pins s1 σ H1 _ I1 q1) fun vu s2 ⟨o, H2, I2, pu, l, xs, c, ex, eo, hl, hc, q2⟩ => wpAny_pure ?_)
  subst ex eo
  cases (show u = Value.ref l from rx)
  have I3 : Inv X pins σ H2 { s2 with heap := s2.heap.push { cls := .type "slice", data := .fields #[.none, vu, .none] } } := I2.kept (t' := s2.toks) fun b ob q => Heap.get?_push_of_some _ q
  obtain ⟨z, its, n, r, len, e3⟩ := I3.lstM hl
  refine delItem_to e3 (Heap.IsSliceOf.new ..) pu (by omega) (by omega) fun f hf => wpAny_deleteEach_nil ⟨σ, _, I3.lset (t' := s2.toks) hl e3 hf (r.drop c) ?_, q2⟩
  rw [List.length_drop]
  omega
end
end Tk
namespace Tk
open PySem PySem.Spec PyProof.Rows L2 Evl
section
variable {σ σ' σ'' : L2.St} {H H' : Hp} {v x y z : V} {te ta tb : TE} {t u tw tz : TS} {c c2 : TT} {b : Bool} {W : V → Hp → Prop} {K : PySem.W.Frag} {r : R2} {a C dx : Addr} {fs : List (Str × V)} {f m : Str}
theorem ev_fld (ha : Ev ta σ H (.ref a)) (hx : H a = some (.ins C dx fs)) (hc : Cls K C) (hn : NoAttr K C f) (hl : fs.lookup f = some v) : Ev (tFld K ta f) σ H v := fun H1 e Q q =>
  ha H1 e _ fun H2 e2 => ⟨a, C, dx, fs, v, rfl, (e.trans e2) a _ hx, hc, hn, hl, q H2 e2⟩
theorem ev_methF {R : List V → Hp → V → Prop} {tA : TA} {vs : List V} {E : XK} (ha : Ev ta σ H (.ref a)) (hx : H a = some (.ins C dx fs)) (hm : fs.lookup m = none) (h : EvA tA σ H vs) (hR : ∀ H1, Ex H H1 → R (.ref a :: vs) H1 v) : Ev (tMeth C m (spF R) [] E ta tA) σ H v := fun H1 e Q q =>
  ha H1 e _ fun H2 e2 => ⟨a, dx, fs, rfl, (e.trans e2) a _ hx, hm, h H2 (e.trans e2) _ fun H3 e3 => by
    rw [List.append_nil]
    exact ⟨v, fun H4 e4 => hR H4 (((e.trans e2).trans e3).trans e4), fun H4 e4 => q H4 ((e2.trans e3).trans e4)⟩⟩
theorem evw_methW {R : List V → Hp → (V → Hp → Prop) → Prop} {tA : TA} {vs : List V} {E : XK} (ha : Ev ta σ H (.ref a)) (hx : H a = some (.ins C dx fs)) (hm : fs.lookup m = none) (h : EvA tA σ H vs) (hR : ∀ H1, Ex H H1 → R (.ref a :: vs) H1 W) : EvW (tMeth C m (spW R) [] E ta tA) σ H W := fun H1 e Q q =>
  ha H1 e _ fun H2 e2 => ⟨a, dx, fs, rfl, (e.trans e2) a _ hx, hm, h H2 (e.trans e2) _ fun H3 e3 => by
    rw [List.append_nil]
    exact ⟨W, fun H4 e4 => hR H4 (((e.trans e2).trans e3).trans e4), fun v H4 e4 w => q v H4 ((e2.trans e3).trans e4) w⟩⟩
/-- what an __init__ promises: of these arguments, at a new instance -/
def spI (C : Addr) (Dm : List V → Prop) (J : List V → Addr → Addr → Hp → Prop) : Sp := fun vs H Q _ => ∃ (x dx : Addr) (as : List V), vs = .ref x :: as ∧ H x = some (.ins C dx []) ∧ Dm as ∧ ∀ H2, (∀ b o, b ≠ x → H b = some o → H2 b = some o) → J as x dx H2 → Q .non H2
theorem evw_make {Dm : List V → Prop} {J : List V → Addr → Addr → Hp → Prop} {tA : TA} {vs : List V} {E : XK} (h : EvA tA σ H vs) (hd : Dm vs) : EvW (tMake C (spI C Dm J) [] E tA) σ H (fun v H2 => ∃ x dx, v = .ref x ∧ J vs x dx H2) := fun H1 e Q q =>
  h H1 e _ fun H2 e2 => fun x dx nx nd ne => by
    rw [List.append_nil]
    refine ⟨x, dx, vs, rfl, upd_same, hd, fun H3 k w => ⟨rfl, q _ H3 (e2.trans fun b o hb => ?_) ⟨x, dx, rfl, w⟩⟩⟩
    have n1 : b ≠ x := ne_of_none hb nx
    refine k b o n1 ?_
    rw [upd_ne n1, upd_ne (ne_of_none hb nd)]
    exact hb
/-! blocks by what holds of the slots behind -/
def NxP (t : TS) (σ : L2.St) (H : Hp) (P : L2.St → Prop) : Prop := ∀ H1, Ex H H1 → ∀ D : Ends, (∀ σ' H2, Ex H1 H2 → P σ' → D.nx σ' H2) → t D σ H1
theorem nxp_of {P : L2.St → Prop} (h : Nx t σ H σ') (p : P σ') : NxP t σ H P := fun H1 e D q => h H1 e D fun H2 e2 => q σ' H2 e2 p
theorem NxP.imp {P P' : L2.St → Prop} (h : NxP t σ H P) (k : ∀ s, P s → P' s) : NxP t σ H P' := fun H1 e D q => h H1 e D fun s H2 e2 p => q s H2 e2 (k s p)
theorem rt_seqP {P : L2.St → Prop} (h : NxP t σ H P) (k : ∀ σ', P σ' → Rt u σ' H v) : Rt (tSeq t u) σ H v := fun H1 e D q => h H1 e { D with nx := u D } fun σ' H2 e2 p => k σ' p H2 (e.trans e2) D fun H3 e3 => q H3 (e2.trans e3)
theorem rtw_seqP {P : L2.St → Prop} (h : NxP t σ H P) (k : ∀ σ', P σ' → RtW u σ' H W) : RtW (tSeq t u) σ H W := fun H1 e D q => h H1 e { D with nx := u D } fun σ' H2 e2 p => k σ' p H2 (e.trans e2) D fun v H3 e3 w => q v H3 (e2.trans e3) w
theorem nxp_seqP {P P' : L2.St → Prop} (h : NxP t σ H P) (k : ∀ σ', P σ' → NxP u σ' H P') : NxP (tSeq t u) σ H P' := fun H1 e D q => h H1 e { D with nx := u D } fun σ' H2 e2 p => k σ' p H2 (e.trans e2) D fun s H3 e3 w => q s H3 (e2.trans e3) w
theorem nxp_if {P : L2.St → Prop} (h : EvT c σ H b) (h1 : b = true → NxP t σ H P) (h2 : b = false → NxP u σ H P) : NxP (tIfS c t u) σ H P := fun H1 e D q => h H1 e _ fun H2 e2 => by
  cases b with
  | true =>
    show t D σ H2
    exact h1 rfl H2 (e.trans e2) D fun s H3 e3 => q s H3 (e2.trans e3)
  | false =>
    show u D σ H2
    exact h2 rfl H2 (e.trans e2) D fun s H3 e3 => q s H3 (e2.trans e3)
theorem nxp_while {P : L2.St → Prop} (I : L2.St → Prop) (μ : L2.St → Nat) (h0 : I σ) (hs : ∀ s, I s → ∃ b, EvT c s H b ∧ (b = true → NxP u s H fun s' => I s' ∧ μ s' < μ s) ∧ (b = false → P s)) : NxP (tWhile c u) σ H P := fun H1 e D q =>
  ⟨fun k s H2 => k = μ s ∧ I s ∧ Ex H1 H2, ⟨_, rfl, h0, Ex.refl _⟩, fun k s H2 ⟨hk, hI, e2⟩ => by
    subst hk
    obtain ⟨b, hb, h1, h2⟩ := hs s hI
    refine hb H2 (e.trans e2) _ fun H3 e3 => ?_
    cases b with
    | true =>
      refine ⟨fun s' H' => (I s' ∧ μ s' < μ s) ∧ Ex H1 H', fun s' H' p => ⟨μ s', p.1.2, rfl, p.1.1, p.2⟩, ?_⟩
      exact h1 rfl H3 ((e.trans e2).trans e3) _ fun s' H4 e4 p => ⟨p, (e2.trans e3).trans e4⟩
    | false => exact q s H3 (e2.trans e3) (h2 rfl)⟩
/-! lists of pairs of numbers, tracked -/
def Prs (H : Hp) (ps : List Addr) (vs : List (Int × Int)) : Prop := Paired (fun (p : Addr) (q : Int × Int) => H p = some (.tup [.int q.1, .int q.2])) ps vs
def PairsT (H : Hp) (l : Addr) (vs : List (Int × Int)) : Prop := ∃ ps : List Addr, H l = some (.lst (ps.map V.ref)) ∧ Prs H ps vs
theorem Prs.mono {ps : List Addr} {vs : List (Int × Int)} (e : Ex H H') (h : Prs H ps vs) : Prs H' ps vs := by
  induction h with
  | nil => exact .nil
  | cons h1 _ ih => exact .cons (e _ _ h1) ih
theorem Prs.len {ps : List Addr} {vs : List (Int × Int)} (h : Prs H ps vs) : ps.length = vs.length := by
  induction h with
  | nil => rfl
  | cons _ _ ih => rw [List.length_cons, List.length_cons, ih]
theorem Prs.at {ps : List Addr} {vs : List (Int × Int)} (h : Prs H ps vs) {i : Nat} {q : Int × Int} (hq : vs[i]? = some q) : ∃ p, ps[i]? = some p ∧ H p = some (.tup [.int q.1, .int q.2]) := by
  induction h generalizing i with
  | nil => simp at hq
  | @cons p q' ps vs h1 _ ih =>
    cases i with
    | zero =>
      rw [List.getElem?_cons_zero] at hq
      cases hq
      exact ⟨p, rfl, h1⟩
    | succ i =>
      rw [List.getElem?_cons_succ] at hq
      obtain ⟨p', e1, e2⟩ := ih hq
      exact ⟨p', by rw [List.getElem?_cons_succ]; exact e1, e2⟩
theorem Prs.snoc {ps : List Addr} {vs : List (Int × Int)} {p : Addr} {q : Int × Int} (h : Prs H ps vs) (hp : H p = some (.tup [.int q.1, .int q.2])) : Prs H (ps ++ [p]) (vs ++ [q]) := by
  induction h with
  | nil => exact .cons hp .nil
  | cons h1 _ ih => exact .cons h1 ih
theorem Prs.drop {ps : List Addr} {vs : List (Int × Int)} (k : Nat) (h : Prs H ps vs) : Prs H (ps.drop k) (vs.drop k) := by
  induction h generalizing k with
  | nil =>
    rw [List.drop_nil, List.drop_nil]
    exact .nil
  | cons h1 h2 ih =>
    cases k with
    | zero => exact .cons h1 h2
    | succ k => exact ih k
theorem Prs.take {ps : List Addr} {vs : List (Int × Int)} (k : Nat) (h : Prs H ps vs) : Prs H (ps.take k) (vs.take k) := by
  induction h generalizing k with
  | nil =>
    rw [List.take_nil, List.take_nil]
    exact .nil
  | cons h1 h2 ih =>
    cases k with
    | zero => exact .nil
    | succ k => exact .cons h1 (ih k)
/-- a change elsewhere: at an object that is no tuple -/
theorem Prs.upd {ps : List Addr} {vs : List (Int × Int)} {l : Addr} {o : HO} (h : Prs H ps vs) (hl : ∀ xs, H l ≠ some (.tup xs)) : Prs (L2.upd H l o) ps vs := by
  induction h with
  | nil => exact .nil
  | cons h1 _ ih => exact .cons (by rw [upd_ne (fun z => hl _ (by rw [← z]; exact h1))]; exact h1) ih
theorem PairsT.mono {l : Addr} {vs : List (Int × Int)} (e : Ex H H') (h : PairsT H l vs) : PairsT H' l vs := by
  obtain ⟨ps, h1, h2⟩ := h
  exact ⟨ps, e _ _ h1, h2.mono e⟩
theorem PairsT.lst {l : Addr} {vs : List (Int × Int)} (h : PairsT H l vs) : ∃ xs : List V, SqL K H l xs ∧ xs.length = vs.length := by
  obtain ⟨ps, h1, h2⟩ := h
  exact ⟨_, sq_of h1, by rw [List.length_map]; exact h2.len⟩
theorem ev_lenP {l : Addr} {vs : List (Int × Int)} (ha : Ev ta σ H (.ref l)) (h : PairsT H l vs) : Ev (tCB (fun xs H Q => ∃ p ys, xs = [.ref p] ∧ (SqL K H p ys ∨ SqT K H p ys) ∧ Q (.int ys.length) H) (tCons ta tNil)) σ H (.int (vs.length : Int)) := by
  obtain ⟨xs, h1, h2⟩ := h.lst (K := K)
  rw [← h2]
  exact ev_lenL ha h1
/-- rows[i] -/
theorem ev_pair {l : Addr} {vs : List (Int × Int)} {i : Int} {q : Int × Int} (h : PairsT H l vs) (ha : Ev ta σ H (.ref l)) (hb : Ev tb σ H (.int i)) (h0 : 0 ≤ i) (hq : vs[i.toNat]? = some q) : ∃ p, H p = some (.tup [.int q.1, .int q.2]) ∧ Ev (tOp (rIxL K) ta tb) σ H (.ref p) := by
  obtain ⟨ps, h1, h2⟩ := h
  obtain ⟨p, e1, e2⟩ := h2.at hq
  refine ⟨p, e2, ev_ixL ha hb (sq_of h1) ?_⟩
  obtain ⟨j, rfl⟩ : ∃ j : Nat, i = (j : Int) := ⟨i.toNat, by omega⟩
  refine atI_nat ?_
  rw [List.getElem?_map]
  rw [Int.toNat_natCast] at e1
  rw [e1]
  rfl
theorem ev_pair0 {l : Addr} {vs : List (Int × Int)} {i : Int} {q : Int × Int} (ha : Ev ta σ H (.ref l)) (hb : Ev tb σ H (.int i)) (h : PairsT H l vs) (h0 : 0 ≤ i) (hq : vs[i.toNat]? = some q) : Ev (tOp (rIxT K) (tOp (rIxL K) ta tb) (tC (.int 0))) σ H (.int q.1) := by
  obtain ⟨p, h1, h2⟩ := ev_pair (K := K) h ha hb h0 hq
  exact ev_ixT h2 ev_c (st_of h1) rfl
theorem ev_pair1 {l : Addr} {vs : List (Int × Int)} {i : Int} {q : Int × Int} (ha : Ev ta σ H (.ref l)) (hb : Ev tb σ H (.int i)) (h : PairsT H l vs) (h0 : 0 ≤ i) (hq : vs[i.toNat]? = some q) : Ev (tOp (rIxT K) (tOp (rIxL K) ta tb) (tC (.int 1))) σ H (.int q.2) := by
  obtain ⟨p, h1, h2⟩ := ev_pair (K := K) h ha hb h0 hq
  exact ev_ixT h2 ev_c (st_of h1) rfl
/-! statements that change objects, told at the heap ahead -/
variable {D : Ends}
theorem Nx.go (h : Nx t σ H σ') (k : ∀ H2, Ex H H2 → u D σ' H2) : tSeq t u D σ H := h H (Ex.refl H) { D with nx := u D } k
theorem Rt.go (h : Rt t σ H v) (k : ∀ H2, Ex H H2 → D.rt v H2) : t D σ H := h H (Ex.refl H) D k
theorem s_fldst {y : V} {tv : TE} (hv : Ev tv σ H y) (ha : Ev ta σ H (.ref a)) (hx : H a = some (.ins C dx fs)) (hc : Cls K C) (hn : NoAttr K C f) (hl : fs.length < 1000) (k : ∀ H1, Ex H H1 → D.nx σ (upd H1 a (.ins C dx (putF f y fs)))) : sFld K ta tv f D σ H :=
  hv H (Ex.refl H) _ fun H1 e1 => ha H1 e1 _ fun H2 e2 => ⟨a, C, dx, fs, rfl, (e1.trans e2) _ _ hx, hc, hn, hl, k H2 (e1.trans e2)⟩
theorem s_fldaugst {i j : Int} {tv : TE} (ha : Ev ta σ H (.ref a)) (hx : H a = some (.ins C dx fs)) (hc : Cls K C) (hn : NoAttr K C f) (hl : fs.lookup f = some (.int i)) (hv : Ev tv σ H (.int j)) (hz : fs.length < 1000) (k : ∀ H1, Ex H H1 → D.nx σ (upd H1 a (.ins C dx (putF f (.int (i + j)) fs)))) : sFldAug K ta tv rAdd f D σ H :=
  ha H (Ex.refl H) _ fun H1 e1 => ⟨a, C, dx, fs, .int i, rfl, e1 _ _ hx, hc, hn, hl, hv H1 e1 _ fun H2 e2 => ⟨i, j, rfl, rfl, dx, fs, (e1.trans e2) _ _ hx, hz, k H2 (e1.trans e2)⟩⟩
/-! a loop whose turn goes on with a new state, or leaves -/
def runN {α : Type} (turn : Nat → α → Option α) : Nat → Nat → α → Option α
  | 0, _, st => some st
  | m + 1, i, st => match turn i st with
    | none => none
    | some st' => runN turn m (i + 1) st'
theorem runN_steps {α : Type} (turn : Nat → α → Option α) : ∀ (m i : Nat) (st : α),
    (∃ f : Nat → α, f 0 = st ∧ (∀ j, j < m → turn (i + j) (f j) = some (f (j + 1))) ∧ runN turn m i st = some (f m)) ∨
    (∃ (k : Nat) (f : Nat → α), k < m ∧ f 0 = st ∧ (∀ j, j < k → turn (i + j) (f j) = some (f (j + 1))) ∧ turn (i + k) (f k) = none ∧ runN turn m i st = none)
  | 0, i, st => .inl ⟨fun _ => st, rfl, fun _ h => absurd h (Nat.not_lt_zero _), rfl⟩
  | m + 1, i, st => by
    cases e : turn i st with
    | none =>
      refine .inr ⟨0, fun _ => st, Nat.succ_pos _, rfl, fun _ h => absurd h (Nat.not_lt_zero _), e, ?_⟩
      rw [runN, e]
    | some st' =>
      have er : runN turn (m + 1) i st = runN turn m (i + 1) st' := by rw [runN, e]
      have sh : ∀ j, i + 1 + j = i + (j + 1) := fun j => by omega
      rcases runN_steps turn m (i + 1) st' with ⟨f, h0, h1, h2⟩ | ⟨k, f, hk, h0, h1, h2, h3⟩
      · refine .inl ⟨fun j => match j with | 0 => st | j + 1 => f j, rfl, fun j hj => ?_, er.trans h2⟩
        cases j with
        | zero =>
          show turn i st = some (f 0)
          rw [e, h0]
        | succ j =>
          rw [← sh]
          exact h1 j (Nat.lt_of_succ_lt_succ hj)
      · refine .inr ⟨k + 1, fun j => match j with | 0 => st | j + 1 => f j, Nat.succ_lt_succ hk, rfl, fun j hj => ?_, by rw [← sh]; exact h2, er.trans h3⟩
        cases j with
        | zero =>
          show turn i st = some (f 0)
          rw [e, h0]
        | succ j =>
          rw [← sh]
          exact h1 j (Nat.lt_of_succ_lt_succ hj)
theorem rt_for_opt {α : Type} {wi : TI} {items : Nat → V} {n : Nat} {g : TG} {v0 : V} {st0 : α} (turn : Nat → α → Option α) (S : α → Nat → L2.St) (Iv : Nat → α → Prop) (i0 : Iv 0 st0) (hI : EvI wi (S st0 0) H items n)
    (hs : ∀ i st st', i < n → Iv i st → turn i st = some st' → GNx g u (items i) (S st i) H (S st' (i + 1)) ∧ Iv (i + 1) st') (hn : ∀ i st, i < n → Iv i st → turn i st = none → GRtW g u (items i) (S st i) H (fun v' _ => v' = v0))
    (hr : ∀ st, Iv n st → runN turn n 0 st0 = some st → Rt tz (S st n) H v) (h0 : runN turn n 0 st0 = none → v = v0) : Rt (tSeq (tFor wi g u) tz) (S st0 0) H v := by
  rcases runN_steps turn n 0 st0 with ⟨f, f0, f1, f2⟩ | ⟨k, f, hk, f0, f1, f2, f3⟩
  · have iv : ∀ j, j ≤ n → Iv j (f j) := fun j => by
      induction j with
      | zero => intro _; rw [f0]; exact i0
      | succ j ih => exact fun hj => (hs j (f j) (f (j + 1)) hj (ih (Nat.le_of_succ_le hj)) (by have := f1 j hj; rw [Nat.zero_add] at this; exact this)).2
    have hI' : EvI wi (S (f 0) 0) H items n := by rw [f0]; exact hI
    have z : Nx (tFor wi g u) (S (f 0) 0) H (S (f n) n) := nx_for (fun j => S (f j) j) hI' fun j hj => (hs j _ _ hj (iv j (Nat.le_of_lt hj)) (by have := f1 j hj; rw [Nat.zero_add] at this; exact this)).1
    rw [f0] at z
    exact rt_seq z (hr _ (iv n (Nat.le_refl n)) f2)
  · have iv : ∀ j, j ≤ k → Iv j (f j) := fun j => by
      induction j with
      | zero => intro _; rw [f0]; exact i0
      | succ j ih => exact fun hj => (hs j (f j) (f (j + 1)) (Nat.lt_trans hj hk) (ih (Nat.le_of_succ_le hj)) (by have := f1 j hj; rw [Nat.zero_add] at this; exact this)).2
    have hI' : EvI wi (S (f 0) 0) H items n := by rw [f0]; exact hI
    have z : Rt (tFor wi g u) (S (f 0) 0) H v0 := rt_for k (fun j => S (f j) j) hI' hk (fun j hj => (hs j _ _ (Nat.lt_trans hj hk) (iv j (Nat.le_of_lt hj)) (by have := f1 j hj; rw [Nat.zero_add] at this; exact this)).1) (hn k _ hk (iv k (Nat.le_refl k)) (by rw [Nat.zero_add] at f2; exact f2))
    rw [f0] at z
    rw [h0 f3]
    exact rt_now z
theorem Rt.at (h : Rt t σ' H v) (e : σ = σ') : Rt t σ H v := e ▸ h
theorem getD_some {vs : List (Int × Int)} {i : Nat} (h : i < vs.length) : vs[i]? = some (vs.getD i (0, 0)) := by
  rw [List.getD_eq_getElem?_getD, List.getElem?_eq_getElem h]
  rfl
end
section
variable {P : Program} {w : World} {K : PySem.W.Frag} {mg : Str → Option Value} {base : Heap} {C : Addr} {x m : Str} {sp : Sp} {dvs : List V} {j k : Nat}
theorem metMono (h : j ≤ k) (c : C8.Met P w K mg base j C m sp dvs) : C8.Met P w K mg base k C m sp dvs := by
  obtain ⟨f, fd, ps, ds, h1, h2, F, h3, h4⟩ := c.ex
  exact ⟨f, fd, ps, ds, h1, h2, F.mono h, h3, h4⟩
theorem calMono (h : j ≤ k) (c : C8.Cal P w K mg base j x sp dvs) : C8.Cal P w K mg base k x sp dvs := by
  obtain ⟨f, fd, ps, ds, F, h1, h2, h3, h4⟩ := c.ex
  exact ⟨f, fd, ps, ds, F.mono h, h1, h2, h3, h4⟩
end
theorem rv_isB {a b : Bool} {H : Hp} : RV rIsB (.bl a) (.bl b) H (.bl (decide (a = b))) := fun H1 _ _ q => ⟨a, b, rfl, rfl, q H1 (Ex.refl H1)⟩
end Tk
namespace Tk
open PySem PySem.Spec PyProof.Rows L2 Evl
/-! a class made in a try: what leaves its __init__ is the try's -/
def tMakeS (C : Addr) (sp : Sp) (E : L2.St → XK) (t : TA) : TE := fun σ H Q => t σ H fun vs H1 => ∀ x dx, H1 x = none → H1 dx = none → dx ≠ x → sp (.ref x :: vs) (upd (upd H1 dx (.own x)) x (.ins C dx [])) (fun v H2 => v = .non ∧ Q (.ref x) H2) (E σ)
section
variable {X : Cx} {CX : CXT} {k : Nat} {f C : Addr} {fd : FuncData} {ps : List Str} {sp : Sp} {E : L2.St → XK} {x : Str} {p pos : Pos} {e : Expr} {es : List Expr} {t : TA}
theorem goMakeS {pn : List (Addr × Obj)} {σ : L2.St} {H : Hp} {s : Shared} {Q : VK} {us : List Value} {vs : List V} (M : Mk X.K C f) (F : FnOk X.prog X.w X.K X.mg X.base CX k f fd ps sp) (hr : Room (k + 1) X.A) (hb : Binds X.K fd ps []) (hx : PassesAt CX X σ (E σ)) (I : Inv X pn σ H s) (r : Vals vs us)
    (h : ∀ x dx, H x = none → H dx = none → dx ≠ x → sp (.ref x :: vs) (upd (upd H dx (.own x)) x (.ins C dx [])) (fun v H2 => v = .non ∧ Q (.ref x) H2) (E σ)) : wpAny (model X.prog X.w) X.A (call (.ref C) us) (EP X pn σ Q) X.xe s := by
  have free1 : H (s.heap.objs.size + 1) = none := I.hok.fresh (Nat.le_succ _)
  have free0 : H s.heap.objs.size = none := I.hok.fresh (Nat.le_refl _)
  have made := h _ _ free1 free0 (Nat.ne_of_lt (Nat.lt_succ_self _))
  have J := Inv.made (C := C) I
  have vals : Vals (V.ref (s.heap.objs.size + 1) :: vs) (Value.ref (s.heap.objs.size + 1) :: us) := .cons rfl r
  have many : (Value.ref (s.heap.objs.size + 1) :: us).length = ps.length := vals.length.symm.trans (F.len _ _ _ _ made)
  have bound := hb _ (Value.ref (s.heap.objs.size + 1) :: us) J.kIn (by rw [List.append_nil]; exact many)
  rw [List.append_nil] at bound
  refine wpAny_call (make_map (f := f) I.kIn M.makes M.init (beq_iff_eq.mp M.fn) (codeAny_mono (F.run _ X.stack _ _ _ _ _ _ (E σ) (hr.make C us []) (J.env0.make C us []) bound vals made) fun res s' got => ?_))
  match res, got with
  | .error err, got => exact hx pn _ _ err s' J got
  | .ok (.ret u), got =>
    obtain ⟨v, H3, J3, rv, ev, q3⟩ := J.after got
    subst ev
    exact ⟨rv, ⟨V.ref (s.heap.objs.size + 1), H3, J3, rfl, q3⟩⟩
  | .ok .next, got => exact False.elim got
  | .ok .brk, got => exact False.elim got
  | .ok .cont, got => exact False.elim got
theorem pe_makeS (M : Mk X.K C f) (F : FnOk X.prog X.w X.K X.mg X.base CX k f fd ps sp) (hr : Room (k + 1) X.A) (hg : Gl X x) (hm : X.mg x = some (.ref C)) (hb : Binds X.K fd ps []) (hx : ∀ σ, PassesAt CX X σ (E σ)) (ha : PA X (e :: es) t)
    (hdb : (x == ("__debug__" : Str)) = false := by decide) (he : starEach (e :: es) X.env = (false, eval e X.env) :: starEach es X.env := by rfl) (hpl : (backTo pos (starEach es X.env)).any (·.1) = false := by rfl) : PE X (.Call (.Name x p) (e :: es) [] pos) (tMakeS C sp E t) :=
  ⟨fun pn s σ H Q I h => wpAny_Call_Name_kw (ld_glob I hg hm (PySem.W.callWith_K (h₀ := X.base) I.ok.mod.kin M.kp (thn (ha.run pos pn s σ H _ I h) fun us s1 ⟨vs, H1, I1, r, q⟩ => ⟨I1.kIn, goMakeS M F hr hb (hx σ) I1 r q⟩) he hpl) hdb)⟩
end
/-! a for by what holds of the slots -/
def GNxP (g : TG) (u : TS) (x : V) (σ : L2.St) (H : Hp) (P : L2.St → Prop) : Prop := ∀ H1, Ex H H1 → ∀ D : Ends, (∀ σ' H2, Ex H1 H2 → P σ' → D.nx σ' H2) → g x σ H1 fun σ2 H2 => u D σ2 H2
theorem gnxp_name {j : Nat} {u : TS} {x : V} {σ : L2.St} {H : Hp} {P : L2.St → Prop} (h : NxP u (σ.set j (some x)) H P) : GNxP (gName j) u x σ H P := fun H1 e D q => h H1 e D q
theorem nxp_for {wi : TI} {items : Nat → V} {n : Nat} {g : TG} {u : TS} {σ : L2.St} {H : Hp} (Iv : Nat → L2.St → Prop) (i0 : Iv 0 σ) (h : EvI wi σ H items n) (hs : ∀ i s, i < n → Iv i s → GNxP g u (items i) s H (Iv (i + 1))) : NxP (tFor wi g u) σ H (Iv n) := fun H1 e D q =>
  h H1 e _ fun J H2 e2 G => by
    refine ⟨fun i m s H3 => m = n - i ∧ i ≤ n ∧ Iv i s ∧ Ex H2 H3, ⟨n, by simp, Nat.zero_le _, i0, Ex.refl _⟩, ?_⟩
    rintro i m s H3 ⟨rfl, hi, hv, e3⟩
    by_cases hlt : i < n
    · refine .inr ⟨G.go i H3 e3 hlt, fun s' H' => Iv (i + 1) s' ∧ Ex H2 H', fun s' H' p => ⟨n - (i + 1), by omega, rfl, hlt, p.1, p.2⟩, fun x H' y => ?_⟩
      obtain ⟨rfl, rfl⟩ := G.yld i x H3 H' e3 hlt y
      exact hs i s hlt hv _ ((e.trans e2).trans e3) _ fun s' H4 e4 p => ⟨p, e3.trans e4⟩
    · obtain rfl : i = n := by omega
      exact .inl ⟨G.stop _ e3, q _ _ (e2.trans e3) hv⟩
theorem rv_notB {a b : Bool} {H : Hp} : RV rNotB (.bl a) (.bl b) H (.bl (!decide (a = b))) := fun H1 _ _ q => ⟨a, b, rfl, rfl, q H1 (Ex.refl H1)⟩
end Tk
namespace Tk
open PySem PySem.Spec PyProof.Rows L2 Evl NdefX LamX
/-! a function made by one def and handed to another: its cells are no frame of those that stand around -/
def CellsFar (cl : List (Str × Addr)) (outer : List Env) : Prop := ∀ y c, cl.lookup y = some c → c ∉ frs outer
structure FnOkC (P : Program) (w : World) (K : PySem.W.Frag) (mg : Str → Option Value) (base : Heap) (k : Nat) (f : Addr) (fd : FuncData) (ps : List Str) (cl : List (Str × Addr)) (fr : List Str) (ws : List (Option V)) (sp : Sp) : Prop where
  len : ∀ vs H Q E, sp vs H Q E → vs.length = ps.length
  run : ∀ (A : Around) (outer : List Env) (s : Shared) (H : Hp) (args : Args) (us : List Value) (vs : List V) (Q : VK) (E : XK), Room k A → Env0 P w K mg base A outer s H → CellsAt cl fr ws s.heap H → CellsFar cl outer → BindsTo s fd args (ps.zip us) → Vals vs us → sp vs H Q E →
    codeAny (model P w) A (.call (.ref f) args) (CR C8.CX0 outer P w H s Q E) s
section
variable {P : Program} {w : World} {K : PySem.W.Frag} {mg : Str → Option Value} {base : Heap}
theorem fn0C {x qual : Str} {st : Stmt} {f : Addr} {fd : FuncData} {N ps fr : List Str} {k : Nat} {sp : Sp} {cl : List (Str × Addr)} {ws : List (Option V)} (F : C8.Fun K x qual st f fd) (S : FnScope N ps (C8.fnScope st)) (len : ∀ vs H Q E, sp vs H Q E → vs.length = ps.length)
    (hbody : ∀ (cdv : Value) (A : Around) (outer : List Env) (s : Shared) (H : Hp) (vs : List V) (Q : VK) (E : XK), Room k (A.deeper (envOfC qual (C8.fnScope st) s.heap.objs.size f cdv)) → CellsAt cl fr ws s.heap H → CellsFar cl outer → sp vs H Q E →
      ∃ t, PSs (cxOf C8.CX0 P w K mg base N qual (C8.fnScope st) f cdv A outer s H E).nox (C8.fnBody st) t ∧ t { nx := fun _ H' => Q .non H', rt := Q } (L2.start N vs) H) : FnOkC P w K mg base (k + 1) f fd ps cl fr ws sp := by
  obtain ⟨oc, od, dV, kV, doc, pm, an, cdv, ct, osl, e0, lk, hcd⟩ := F.ex
  subst e0
  refine ⟨len, fun A outer s H args us vs Q E room st0 cells far bnd vals ok => ?_⟩
  have kin : K.In s.heap := st0.mod.kin.keeps fun b o z => (st0.bs b o z).1
  have nolim : s.heap.NoLimit := st0.mod.nolimit.keeps fun b o z => (st0.bs b o z).1
  have many : vs.length = ps.length := len _ _ _ _ ok
  have kinds : ∀ y ∈ ps.zip us, (C8.fnScope st).names.lookup y.1 = some .local ∨ ((C8.fnScope st).names.lookup y.1 = some .cell ∧ ((cellsFrom (s.heap.objs.size + 1) (C8.fnScope st).names []).lookup y.1).isSome = true) := by
    intro y hy
    rcases S.par y.1 (List.of_mem_zip (show (y.1, y.2) ∈ ps.zip us from hy)).1 with q | q
    · exact Or.inl q
    · exact Or.inr ⟨q, PySem.W.cellsFrom_some _ _ _ (Or.inl q)⟩
  refine codeAny_call_function room.depth (kin f _ lk) rfl S.co S.gen rfl (PySem.W.codeRec_of kin hcd) (bnd _ _ _ _ ?_)
  refine wpAny_newFunctionEnv_cells S.kind kinds fun env e1 s1 inC => ?_
  subst e1
  refine ⟨nolim.keeps inC.toInCall.keep, codeAny_func ?_⟩
  obtain ⟨t, run, post⟩ := hbody cdv A outer s H vs Q E (room.deeper _) cells far ok
  have start0 : Inv (cxOf C8.CX0 P w K mg base N qual (C8.fnScope st) f cdv A outer s H E) [] (L2.start N vs) H s1 := inv_start S room.hd st0 many vals inC
  refine wpAny_mono (run.nox.run [] s1 (L2.start N vs) H _ start0 post) (fun fl s2 done => ?_) fun _ _ z => z
  match fl, done with
  | .ret u, ⟨v, σ2, H2, J, rv, q⟩ => exact ⟨v, H2, J.os, J.bare, J.base, J.hok, rv, q⟩
  | .next, ⟨σ2, H2, J, q⟩ => exact ⟨V.non, H2, J.os, J.bare, J.base, J.hok, rfl, q⟩
  | .brk, ⟨_, _, _, q⟩ => exact q.elim
  | .cont, ⟨_, _, _, q⟩ => exact q.elim
end
section
variable {X : Cx} {pins : List (Addr × Obj)} {σ : L2.St} {H : Hp} {s : Shared} {cl : List (Str × Addr)} {ps fr : List Str} {ws : List (Option V)} {wsOf : L2.St → List (Option V)} {i j k : Nat} {x : Str} {e : Expr} {es : List Expr} {p pos : Pos} {t : TA}
/-- in the frame to which it was handed -/
theorem cells_later (I : Inv X pins σ H s) (hx : X.ex = []) (C : CellsAt cl fr ws X.s_0.heap X.H_0) (far : CellsFar cl X.outer) : CellsAt cl fr ws s.heap H := C.later far (fun y c _ z => by rw [hx] at z; cases z) I
/-- in the frame that made it -/
theorem far_made (I : Inv X pins σ H s) (hst : X.stack = X.env :: X.outer) (hfr : X.env.frame = some X.env.locals) (hfn : ∀ y, X.fn y = true) (hsub : ∀ y c, cl.lookup y = some c → X.env.cells.lookup y = some c) : CellsFar cl X.stack := fun y c e hb => by
  have e1 := hsub y c e
  have hb2 : c = X.env.locals ∨ c ∈ frs X.outer := by
    rw [hst] at hb
    unfold frs at hb ⊢
    rw [List.filterMap_cons, hfr] at hb
    exact List.mem_cons.mp hb
  rcases hb2 with z | z
  · obtain ⟨v, o, ho, hd⟩ := I.cell y c e1
    obtain ⟨m, ⟨o2, es, ep, ho2, hd2, _⟩, _⟩ := I.loc
    rw [z, ho2] at ho
    cases ho
    rw [hd2] at hd
    cases hd
  · have a := I.ok.cab y c (hfn y) e1
    obtain ⟨_, o, ho, _⟩ := I.ok.funs.mem z
    exact absurd (Heap.lt_size ho) (Nat.not_lt.mpr a)
/-- f(..), f a local that holds a function made by mk -/
def tCallG (mk : Addr → NF) (i : Nat) (wsOf : L2.St → List (Option V)) (sp : List (Option V) → Sp) (t : TA) : TE := fun σ H Q => ∃ f c', σ[i]? = some (some (.ref f)) ∧ H f = some (FnO f (mk c')) ∧
  t σ H fun vs H1 => H1 f = some (FnO f (mk c')) ∧ H1 (mk c').c = some (CodeO (mk c').c (mk c').qual) ∧ sp (wsOf σ) vs H1 Q C8.E0
theorem pe_callG {mk : Addr → NF} {sp : List (Option V) → Sp} (Fn : ∀ f c', NOk X.prog X.w X.K X.mg X.base C8.CX0 k f (mk c') ps fr sp) (hcl : ∀ c', (mk c').cl = cl) (C : ∀ pins σ H s, Inv X pins σ H s → CellsAt cl fr (wsOf σ) s.heap H) (hr : Room j X.A) (hk : k ≤ j) (hN : X.N[i]? = some x) (hv : Vis X.env.scope x)
    (ha : PA X (e :: es) t) (hd : (x == ("__debug__" : Str)) = false := by decide) (hcd : (x == ("__classdict__" : Str)) = false := by decide) (he : starEach (e :: es) X.env = (false, eval e X.env) :: starEach es X.env := by rfl)
    (hpl : (backTo pos (starEach es X.env)).any (·.1) = false := by rfl) : PE X (.Call (.Name x p) (e :: es) [] pos) (tCallG mk i wsOf sp t) := by
  constructor
  intro pins s σ H Q I h
  obtain ⟨f, c', at0, fo, ht⟩ := h
  have look := (pe_var (X := X) (pos := p) hN hv hd hcd).run pins s σ H (fun v H1 => v = .ref f ∧ H1 = H) I ⟨V.ref f, at0, rfl, rfl⟩
  refine wpAny_Call_Name_kw (thn look fun u s1 got => ?_)
  obtain ⟨v, H1, I1, r1, ev, eH⟩ := got
  subst ev
  rw [eH] at I1
  have eu : u = Value.ref f := r1
  subst eu
  refine PySem.W.callWith_F (first := []) (fnAt_of I1 fo) (thn (ha.run pos pins s1 σ H _ I1 ht) fun us s2 got2 => ?_) he hpl
  obtain ⟨vs, H2, I2, r, g1, g2, q⟩ := got2
  have cells := C pins σ H2 s2 I2
  rw [← hcl c'] at cells
  refine ⟨fnAt_of I2 g1, wpAny_call (codeAny_mono ((Fn f c').run X.A X.stack s2 H2 us vs (wsOf σ) Q C8.E0 (hr.mono hk) I2.env0 g1 g2 cells r q) fun res s3 got3 => ?_)⟩
  match res, got3 with
  | .error _, got3 => exact False.elim got3
  | .ok (.ret u2), got3 => exact I2.after got3
  | .ok .next, got3 => exact False.elim got3
  | .ok .brk, got3 => exact False.elim got3
  | .ok .cont, got3 => exact False.elim got3
theorem ev_callG {mk : Addr → NF} {R : List (Option V) → List V → Hp → V → Prop} {f c' : Addr} {vs : List V} {v : V} (hs : σ[i]? = some (some (.ref f))) (hf : H f = some (FnO f (mk c'))) (hc : H (mk c').c = some (CodeO (mk c').c (mk c').qual)) (ha : EvA t σ H vs) (hR : ∀ H1, Ex H H1 → R (wsOf σ) vs H1 v) :
    Ev (tCallG mk i wsOf (fun ws => spF (R ws)) t) σ H v := fun H1 e Q q =>
  ⟨f, c', hs, e _ _ hf, ha H1 e _ fun H2 e2 => ⟨(e.trans e2) _ _ hf, (e.trans e2) _ _ hc, v, fun H3 e3 => hR H3 ((e.trans e2).trans e3), fun H3 e3 => q H3 (e2.trans e3)⟩⟩
/-- a def of the module that is handed such a function -/
structure CalC (P : Program) (w : World) (K : PySem.W.Frag) (mg : Str → Option Value) (base : Heap) (k : Nat) (x : Str) (fr : List Str) (sp : List (Str × Addr) → List (Option V) → Sp) : Prop where
  ex : ∃ (f : Addr) (fd : FuncData) (ps : List Str), (∀ cl ws, FnOkC P w K mg base k f fd ps cl fr ws (sp cl ws)) ∧ mg x = some (.ref f) ∧ PySem.W.keepIn K (.ref f) = true ∧ Binds K fd ps []
def tCallC (cl : List (Str × Addr)) (wsOf : L2.St → List (Option V)) (sp : List (Str × Addr) → List (Option V) → Sp) (t : TA) : TE := fun σ H Q => t σ H fun vs H1 => sp cl (wsOf σ) vs H1 Q C8.E0
theorem pe_cC {sp : List (Str × Addr) → List (Option V) → Sp} (c : CalC X.prog X.w X.K X.mg X.base k x fr sp) (C : ∀ pins σ H s, Inv X pins σ H s → CellsAt cl fr (wsOf σ) s.heap H) (far : ∀ pins σ H s, Inv X pins σ H s → CellsFar cl X.stack) (hr : Room j X.A) (hk : k ≤ j) (hg : Gl X x) (ha : PA X (e :: es) t)
    (hdb : (x == ("__debug__" : Str)) = false := by decide) (he : starEach (e :: es) X.env = (false, eval e X.env) :: starEach es X.env := by rfl) (hpl : (backTo pos (starEach es X.env)).any (·.1) = false := by rfl) :
    PE X (.Call (.Name x p) (e :: es) [] pos) (tCallC cl wsOf sp t) := by
  obtain ⟨f, fd, ps, F, gm, kp, b⟩ := c.ex
  constructor
  intro pins s σ H Q I h
  refine wpAny_Call_Name_kw (ld_glob I hg gm (PySem.W.callWith_K (h₀ := X.base) I.ok.mod.kin kp (thn (ha.run pos pins s σ H _ I h) fun us s1 got => ?_) he hpl) hdb)
  obtain ⟨vs, H1, I1, r, q⟩ := got
  have many : us.length = ps.length := r.length.symm.trans ((F cl (wsOf σ)).len _ _ _ _ q)
  have bd := b s1 us I1.kIn (by rw [List.append_nil]; exact many)
  rw [List.append_nil] at bd
  refine ⟨I1.kIn, wpAny_call (codeAny_mono ((F cl (wsOf σ)).run X.A X.stack s1 H1 ⟨us, []⟩ us vs Q C8.E0 (hr.mono hk) I1.env0 (C pins σ H1 s1 I1) (far pins σ H1 s1 I1) bd r q) fun res s3 got3 => ?_)⟩
  match res, got3 with
  | .error _, got3 => exact False.elim got3
  | .ok (.ret u2), got3 => exact I1.after got3
  | .ok .next, got3 => exact False.elim got3
  | .ok .brk, got3 => exact False.elim got3
  | .ok .cont, got3 => exact False.elim got3
theorem ev_callC {R : List (Str × Addr) → List (Option V) → List V → Hp → V → Prop} {vs : List V} {v : V} (ha : EvA t σ H vs) (hR : ∀ H1, Ex H H1 → R cl (wsOf σ) vs H1 v) : Ev (tCallC cl wsOf (fun cl ws => spF (R cl ws)) t) σ H v := fun H1 e Q q =>
  ha H1 e _ fun H2 e2 => ⟨v, fun H3 e3 => hR H3 ((e.trans e2).trans e3), fun H3 e3 => q H3 (e2.trans e3)⟩
end
/-! what grows but for tables -/
theorem exN_l {K : PySem.W.Frag} {H H' : Hp} {a : Addr} {xs : List V} (e : ExtN H H') (h : SqL K H a xs) : SqL K H' a xs := by
  rcases h with (h | ⟨o, h⟩) | h
  · exact .inl (.inl (e _ _ h fun _ z => by cases z))
  · exact .inl (.inr ⟨o, e _ _ h fun _ z => by cases z⟩)
  · exact .inr h
theorem exN_t {H H' : Hp} {a : Addr} {xs : List V} (e : ExtN H H') (h : H a = some (.tup xs)) : H' a = some (.tup xs) := e _ _ h fun _ z => by cases z
theorem exN_lst {H H' : Hp} {a : Addr} {xs : List V} (e : ExtN H H') (h : H a = some (.lst xs)) : H' a = some (.lst xs) := e _ _ h fun _ z => by cases z
theorem exN_prs {H H' : Hp} {ps : List Addr} {vs : List (Int × Int)} (e : ExtN H H') (h : Prs H ps vs) : Prs H' ps vs := by
  induction h with
  | nil => exact .nil
  | cons h1 _ ih => exact .cons (exN_t e h1) ih
theorem exN_pairs {H H' : Hp} {l : Addr} {vs : List (Int × Int)} (e : ExtN H H') (h : PairsT H l vs) : PairsT H' l vs := by
  obtain ⟨ps, h1, h2⟩ := h
  exact ⟨ps, exN_lst e h1, exN_prs e h2⟩
theorem Ex.extN {H H' : Hp} (e : Ex H H') : ExtN H H' := fun b o h _ => e b o h
/-! for, from the end -/
theorem ei_revR {σ : L2.St} {H : Hp} {te : TE} {n : Int} (h : Ev te σ H (.int n)) (h0 : 0 ≤ n) (h1 : n < 2 ^ 62) : EvI (iRevR (tRg1 te)) σ H (fun i => .int (0 + (((n - 0).toNat : Nat) : Int) - 1 + (i : Nat) * (-1))) (n - 0).toNat := fun H1 e R q =>
  h H1 e _ fun H2 e2 => ⟨n, rfl, by omega, by omega, by omega, h1, q _ H2 e2 gen_c⟩
/-! a for each of whose turns goes on or hands back -/
theorem rtwp_for {wi : TI} {items : Nat → V} {n : Nat} {g : TG} {u tz : TS} {σ : L2.St} {H : Hp} {W : V → Hp → Prop} (Iv : Nat → L2.St → Prop) (i0 : Iv 0 σ) (h : EvI wi σ H items n) (hs : ∀ i s, i < n → Iv i s → GNxP g u (items i) s H (Iv (i + 1)) ∨ GRtW g u (items i) s H W)
    (rest : ∀ s, Iv n s → RtW tz s H W) : RtW (tSeq (tFor wi g u) tz) σ H W := fun H1 e D q =>
  h H1 e _ fun J H2 e2 G => by
    refine ⟨fun i m s H3 => m = n - i ∧ i ≤ n ∧ Iv i s ∧ Ex H2 H3, ⟨n, by simp, Nat.zero_le _, i0, Ex.refl _⟩, ?_⟩
    rintro i m s H3 ⟨rfl, hi, hv, e3⟩
    by_cases hlt : i < n
    · refine .inr ⟨G.go i H3 e3 hlt, fun s' H' => Iv (i + 1) s' ∧ Ex H2 H', fun s' H' p => ⟨n - (i + 1), by omega, rfl, hlt, p.1, p.2⟩, fun x H' y => ?_⟩
      obtain ⟨rfl, rfl⟩ := G.yld i x H3 H' e3 hlt y
      rcases hs i s hlt hv with z | z
      · exact z _ ((e.trans e2).trans e3) _ fun s' H4 e4 p => ⟨p, e3.trans e4⟩
      · exact z _ ((e.trans e2).trans e3) _ fun v H4 e4 w => q v H4 ((e2.trans e3).trans e4) w
    · obtain rfl : i = n := by omega
      exact .inl ⟨G.stop _ e3, rest s hv H3 ((e.trans e2).trans e3) D fun v H4 e4 w => q v H4 ((e2.trans e3).trans e4) w⟩
theorem rtwp_for0 {wi : TI} {items : Nat → V} {n : Nat} {g : TG} {u : TS} {σ : L2.St} {H : Hp} {W : V → Hp → Prop} (Iv : Nat → L2.St → Prop) (i0 : Iv 0 σ) (h : EvI wi σ H items n) (hs : ∀ i s, i < n → Iv i s → GNxP g u (items i) s H (Iv (i + 1)) ∨ GRtW g u (items i) s H W)
    (rest : ∀ s, Iv n s → False) : RtW (tFor wi g u) σ H W := fun H1 e D q =>
  h H1 e _ fun J H2 e2 G => by
    refine ⟨fun i m s H3 => m = n - i ∧ i ≤ n ∧ Iv i s ∧ Ex H2 H3, ⟨n, by simp, Nat.zero_le _, i0, Ex.refl _⟩, ?_⟩
    rintro i m s H3 ⟨rfl, hi, hv, e3⟩
    by_cases hlt : i < n
    · refine .inr ⟨G.go i H3 e3 hlt, fun s' H' => Iv (i + 1) s' ∧ Ex H2 H', fun s' H' p => ⟨n - (i + 1), by omega, rfl, hlt, p.1, p.2⟩, fun x H' y => ?_⟩
      obtain ⟨rfl, rfl⟩ := G.yld i x H3 H' e3 hlt y
      rcases hs i s hlt hv with z | z
      · exact z _ ((e.trans e2).trans e3) _ fun s' H4 e4 p => ⟨p, e3.trans e4⟩
      · exact z _ ((e.trans e2).trans e3) _ fun v H4 e4 w => q v H4 ((e2.trans e3).trans e4) w
    · obtain rfl : i = n := by omega
      exact (rest s hv).elim
theorem grtw_name2 {j : Nat} {u : TS} {x : V} {σ : L2.St} {H : Hp} {W : V → Hp → Prop} (h : RtW u (σ.set j (some x)) H W) : GRtW (gName j) u x σ H W := fun H1 e D q => h H1 e D q
/-! [f(a, b) for a, b in rows] -/
theorem el_lcP {K : PySem.W.Frag} {σ : L2.St} {H : Hp} {tl te : TE} {tt : TT} {a : Addr} {rs : List (Int × Int)} {i j : Nat} {vs : List Nat} (v : Nat → V) (h : Ev tl σ H (.ref a)) (hx : PairsT H a rs) (hz : rs.length ≤ 40000) (hw : ∀ x y, wipe (((wipe σ vs).set i (some x)).set j (some y)) vs = wipe σ vs)
    (ht : ∀ σ' H1, EvT tt σ' H1 true) (he : ∀ (k : Nat) (q : Int × Int) H1, Ex H H1 → rs[k]? = some q → Ev te (((wipe σ vs).set i (some (.int q.1))).set j (some (.int q.2))) H1 (v k)) :
    EvL (tLc (iList K tl) (gTup K 2 (gCons (gName i) (gCons (gName j) gNil))) tt te vs) σ H (given rs.length (fun _ => true) v) := by
  obtain ⟨ps, h1, h2⟩ := hx
  have len : (ps.map V.ref).length = rs.length := by rw [List.length_map]; exact h2.len
  rw [← len]
  intro H0 e Q q
  refine h H0 e _ fun H1 e1 => ⟨a, rfl, ⟨ps.map V.ref, sq_of ((e.trans e1) _ _ h1)⟩, fun Dl hD => ?_⟩
  refine lc_list (xs := ps.map V.ref) (Cw H1 (fun _ => true) v Dl) ⟨hD, Ex.new hD, upd_same⟩ (fun k H' _ p => sq_of (((e.trans e1).trans p.2.1) _ _ h1)) (fun k x H' hi p => ?_) fun H' p => q Dl H' (fresh_back e1 p.1) (e1.trans p.2.1) p.2.2
  rw [List.getElem?_map] at hi
  obtain ⟨b, hb, eb⟩ := Option.map_eq_some_iff.mp hi
  subst eb
  have hk : k < rs.length := by
    rw [← h2.len]
    exact (List.getElem?_eq_some_iff.mp hb).1
  obtain ⟨b', hb', ht'⟩ := h2.at (getD_some hk)
  rw [hb] at hb'
  cases hb'
  refine ⟨b, [.int (rs.getD k (0, 0)).1, .int (rs.getD k (0, 0)).2], rfl, st_of (((e.trans e1).trans p.2.1) _ _ ht'), rfl, _, _, rfl, _, _, rfl, rfl, hw _ _, ?_⟩
  exact cw_turn p (by omega) (ht _ H1) fun _ => he k _ H1 (e.trans e1) (getD_some hk)
theorem given_all (n : Nat) (v : Nat → V) : given n (fun _ => true) v = (List.range n).map v := by
  unfold given
  rw [List.filter_eq_self.mpr fun _ _ => rfl]
end Tk
namespace Tk
open PySem PySem.Spec PyProof.Rows L2 Evl
/-! an exception of an own class, held as a value -/
def IsEx (H : Hp) (a D : Addr) : Prop := H a = some (ExO (.ref D) a) ∨ ∃ (d : Addr) (fs : List (Str × V)), H a = some (exo a D (some d)) ∧ H d = some (exd d fs)
theorem IsEx.mono {H H' : Hp} {a D : Addr} (e : Ex H H') (h : IsEx H a D) : IsEx H' a D := h.imp (fun z => e _ _ z) fun ⟨d, fs, h1, h2⟩ => ⟨d, fs, e _ _ h1, e _ _ h2⟩
theorem IsEx.inst {P : Program} {w : World} {H : Hp} {h : Heap} {a D : Addr} (ok : HOk P w H h) (z : IsEx H a D) : ∃ ox od, PySem.W.InstAt h a ox D od := by
  rcases z with z | ⟨d, fs, h1, h2⟩
  · obtain ⟨⟨oe, vs, g, hz, hd, _⟩, _, _⟩ := ok a _ z
    obtain ⟨oc, od, oda, osl⟩ := oe
    obtain ⟨e1, e2⟩ := hz
    dsimp only at e1 e2 hd
    subst e1 e2 hd
    exact ⟨_, none, ⟨g, rfl, rfl, trivial⟩⟩
  · obtain ⟨t1, g⟩ := exo_at ok h1
    obtain ⟨mA, ⟨o, es, ep, ho, _⟩, _⟩ := exd_at ok h2
    exact ⟨_, some o, ⟨g, rfl, rfl, ho⟩⟩
/-- isinstance(e, c) -/
def rIsX (K : PySem.W.Frag) : List V → Hp → VK → Prop := fun xs H Q => ∃ (a D : Addr) (c : V) (cv : Value) (b : Bool), xs = [.ref a, c] ∧ ExcC K D ∧ IsEx H a D ∧ ClsV c cv ∧ PySem.W.kitOne K (.ref D) cv = some b ∧ Q (.bl b) H
theorem call_isX {X : Cx} : CallR X (.builtin "isinstance") (rIsX X.K) := by
  intro pins s σ H xs us Q I r h
  obtain ⟨a, D, c, cv, b, rfl, C, hx, hc, hk, q⟩ := h
  obtain ⟨u, u2, rfl, ru, ru2⟩ := vals2 r
  obtain rfl : u = Value.ref a := ru
  obtain rfl := hc.eq ru2
  obtain ⟨ox, od, J⟩ := hx.inst I.hok
  obtain ⟨cd, hcd, _⟩ := PySem.W.any_some C.hd
  exact PySem.W.kia_one (PySem.W.kitx_exc (by rw [hcd]; rfl) C.hg C.hk C.hs C.ha C.hn C.ht C.hm) I.kIn J hk (fun z => nomatch z) fun tk => ⟨.bl b, H, I.kept (t' := tk) fun _ _ z => z, rfl, q⟩
theorem ev_isX {K : PySem.W.Frag} {σ : L2.St} {H : Hp} {ta tb : TE} {a D : Addr} {c : V} {cv : Value} {b : Bool} (ha : Ev ta σ H (.ref a)) (hb : Ev tb σ H c) (C : ExcC K D) (hx : IsEx H a D) (hc : ClsV c cv) (hk : PySem.W.kitOne K (.ref D) cv = some b) : Ev (tCB (rIsX K) (tCons ta (tCons tb tNil))) σ H (.bl b) := fun H1 e Q q =>
  ha H1 e _ fun H2 e2 => hb H2 (e.trans e2) _ fun H3 e3 => ⟨a, D, c, cv, b, rfl, C, hx.mono ((e.trans e2).trans e3), hc, hk, q H3 (e2.trans e3)⟩
/-- e.f -/
def tXv (K : PySem.W.Frag) (f : Str) (te : TE) : TE := fun σ H Q => te σ H fun x H1 => ∃ (a C d : Addr) (fs : List (Str × V)) (v : V), x = .ref a ∧ ExcC K C ∧ PySem.W.findIn K (.ref C) f = some none ∧ H1 a = some (exo a C (some d)) ∧ H1 d = some (exd d fs) ∧ fs.lookup f = some v ∧ Q v H1
theorem pe_xv {X : Cx} {e : Expr} {te : TE} {pos : Pos} {f : Str} (he : PE X e te) (hb : attributeBase e f X.env (eval e X.env) = eval e X.env := by rfl) : PE X (.Attribute e f pos) (tXv X.K f te) := by
  constructor
  intro pins s σ H Q I h
  refine attr_of hb (thn (he.run pins s σ H _ I h) fun u s1 got => ?_)
  obtain ⟨x, H1, I1, rx, a, C, d, fs, v, ex, T, no, ha, hd, hl, q⟩ := got
  subst ex
  obtain rfl : u = Value.ref a := rx
  obtain ⟨t1, g⟩ := exo_at I1.hok ha
  obtain ⟨mA, hns, hr⟩ := exd_at I1.hok hd
  obtain ⟨od, ho, hlk⟩ := lookIn_ns hns
  obtain ⟨u, hu, ru⟩ := RelO.some_of (v := v) (o := mA f) (by rw [← hl]; exact hr f)
  have J : PySem.W.InstAt s1.heap a _ C (some od) := ⟨g, rfl, rfl, ho⟩
  exact HandSPX.exc_get I1.kIn J T.hg T.hk T.hs (PySem.W.findObj_own T.hd no rfl (by rw [hlk, hu])) (handed_of ru) ⟨v, H1, I1.tok _, ru, q⟩
theorem ev_xv {K : PySem.W.Frag} {σ : L2.St} {H : Hp} {te : TE} {a C d : Addr} {fs : List (Str × V)} {v : V} {f : Str} (h : Ev te σ H (.ref a)) (T : ExcC K C) (no : PySem.W.findIn K (.ref C) f = some none) (ha : H a = some (exo a C (some d))) (hd : H d = some (exd d fs)) (hl : fs.lookup f = some v) : Ev (tXv K f te) σ H v := fun H1 e Q q =>
  h H1 e _ fun H2 e2 => ⟨a, C, d, fs, v, rfl, T, no, (e.trans e2) _ _ ha, (e.trans e2) _ _ hd, hl, q H2 e2⟩
/-- X(text), X without an __init__ -/
theorem evw_exc1 {σ : L2.St} {H : Hp} {ta : TE} {C : Addr} {v : V} (h : Ev ta σ H v) : EvW (fun σ H Q => ta σ H fun _ H1 => ∀ a, H1 a = none → Q (.ref a) (upd H1 a (ExO (.ref C) a))) σ H (fun v H2 => ∃ a, v = .ref a ∧ IsEx H2 a C) := fun H1 e Q q =>
  h H1 e _ fun H2 e2 a na => q _ _ (e2.trans (Ex.new na)) ⟨a, rfl, .inl upd_same⟩
/-! super().__init__(text), first in an own __init__ -/
section
variable {prog : Program} {w : World} {A : Around} {E : Value → Shared → Prop} {h : Heap} {g : Array GenState} {d : Drawn} {t : Nat} {os : OsState}
theorem call_mw {newId i B : String} {bmB : List Value} (FB : ExcBaseFacts B newId i bmB) {nm q : Str} {C N u e t0 : Addr} {bs bm : List Value} {hdct : Bool} {sn : List Str} {sub : List Value} {ab : Bool} {col : Option Bool} {dd dv : Option Addr} {k0 k1 k2 k3 k5 : Option Value} {c2 : Value} {rest : List Value} {Q : Value → Shared → Prop}
    (hC : h.get? C = some (excClassObj nm q C N bs bm hdct sn sub ab col dd k0 k1 k2 k3 k5 newId)) (hu : h.get? u = some (PySem.W.kxs_mw i e)) (he : h.get? e = some (PySem.W.excObj C t0 dv c2)) (hz : rest.length ≤ sizeLine)
    (hq : ∀ h' t1, (∀ b o, b ≠ e → h.get? b = some o → h'.get? b = some o) → h'.get? e = some (PySem.W.excObj C t1 dv c2) → Q .none ⟨h', g, d, t, os⟩) : wpAny (model prog w) A (call (.ref u) rest) Q E ⟨h, g, d, t, os⟩ := by
  refine wpAny_call (codeAny_of_tree ?_)
  show wpAny _ A.in1 (callAny (.ref u) ⟨rest, []⟩) _ _ _
  unfold callAny
  refine wpAny_bind (wpAny_load hu ?_)
  have kind : (Value.type "method-wrapper" == Value.type "method" || Value.type "method-wrapper" == Value.type "builtin_function_or_method" || Value.type "method-wrapper" == Value.type "method-wrapper") = true := by decide
  simp only [PySem.W.kxs_mw, kind, if_true]
  refine PySem.W.KFB.if_so (by decide) (wpAny_bind (PySem.W.check_bound_init FB.toExcCallFacts hC he rfl (wpAny_bind (wpAny_pure (wpAny_pure ?_)))))
  exact ⟨plainId_quiet FB.init.plain _, codeAny_builtin FB.initEntry (PySem.W.exc_init_tree (cls := .ref C) (t0 := t0) (dv := dv) (c2 := c2) (c3 := .none) (b4 := .bool false) he hz fun h' k1 k2 _ => hq h' _ k1 k2)⟩
end
/-- what the written part says of a class whose __init__ says super().__init__ -/
structure SupC (K : PySem.W.Frag) (P : Program) (D f cc cda : Addr) : Prop where
  ox : OexC K D
  cell : ∃ cl cld csl, K.lookup cc = some ⟨cl, cld, .cell (some (.ref D)), csl⟩
  code : ∃ ccl cdd vs ccs file tf, K.lookup cda = some ⟨ccl, cdd, .fields vs, ccs⟩ ∧ (vs[2]? : Option Value) = some (.str file tf) ∧ ((P.main.file : Str) == file) = true
  top : (P.main.scope.names.lookup ("super" : Str)).isSome = false
  self : PySem.W.mroIn K D (.ref D) = some true
  ve : PySem.W.subIn K (.ref D) (.type "ValueError") = some true
  opq : PySem.W.nsIn K cStatics "thirdparty.any" = some none
  sup : PySem.W.ks_superIn K D D "__init__" = some (some (.builtin "ValueError.__init__"))
theorem at_super {X : Cx} {body rest : List Stmt} {f cc cda D : Addr} {fd : FuncData} {ar : Arg} {oc : Value} {od : Option Addr} {osl : Array (Option Value)} {p0 p1 ap pos pos2 : Pos} {e : Expr} {te : TE} {t : TS} {pl : Sem Bool} (S : SupC X.K X.prog D f cc cda) (lk : X.K.lookup f = some ⟨oc, od, .func fd, osl⟩)
    (hms : X.mg "super" = none) (hfu : X.env.func = some f) (hco : X.env.code = .ref cda) (hcl : X.env.cells.lookup ("__class__" : Str) = some cc) (hks : X.env.kindOf "super" = some .globalImplicit) (hkc : X.env.kindOf "__class__" = some .free) (hka : X.env.kindOf ar.arg = some .local)
    (hp : (fd.params.posonlyargs ++ fd.params.args).head? = some ar) (hN : X.N[0]? = some ar.arg) (he : PE X e te) (hrest : PSs X rest t) {pins : List (Addr × Obj)} {σ : L2.St} {H : Hp} {s : Shared} {a : Addr} {Dn : Ends} (I : Inv X pins σ H s) (hσ : σ[0]? = some (some (.ref a))) (ha : H a = some (exo a D none)) (hv : EvW te σ H (fun _ _ => True)) (q : ∀ H1, Ex H H1 → t Dn σ H1)
    (hi : interactive X.env = false := by rfl) (hs : swapsWith (.Call (.Attribute (.Call (.Name "super" p0) [] [] p1) "__init__" ap) [e] [] pos) none pos2.line X.env = pure false := by rfl)
    (hc : eval (.Call (.Attribute (.Call (.Name "super" p0) [] [] p1) "__init__" ap) [e] [] pos) X.env = (do
      let ov ← attributeBase (.Call (.Name "super" p0) [] [] p1) "__init__" X.env (eval (.Call (.Name "super" p0) [] [] p1) X.env)
      standAt ap.atName
      let (f, first) ← holding [ov] (getMethod ov "__init__" pl)
      callWith pos f first (backTo pos (starEach [e] X.env)) []) := by rfl)
    (hst : starEach [e] X.env = (false, eval e X.env) :: starEach [] X.env := by rfl) (hpl : (backTo pos (starEach [] X.env)).any (·.1) = false := by rfl) :
    _root_.PySem.wpAt (model X.prog X.w) X.A (.func body X.env) (execs (.Expr (.Call (.Attribute (.Call (.Name "super" p0) [] [] p1) "__init__" ap) [e] [] pos) pos2 :: rest) X.env) (SP X pins Dn) X.xe s := by
  obtain ⟨hh, g, d, t0, os⟩ := s
  have X1 : X.K.In hh := I.kIn
  obtain ⟨ccl, cdd, vsc, ccs, file, tf, hcode, hvs, hfile⟩ := S.code
  obtain ⟨cl, cld, csl, hcell⟩ := S.cell
  obtain ⟨nm, qn, N', bs, bm, sn, sub, ab, col, dd, k0, k1, k2, k3, k5, hC, hbm⟩ := S.ox.cls
  obtain ⟨t1, hx⟩ := exo_at I.hok ha
  obtain ⟨m, hns, hloc⟩ := I.loc
  obtain ⟨mb, hb1, hb2⟩ := I.mod.blt
  have self : m ar.arg = some (.ref a) := by
    obtain ⟨u, ru, look⟩ := hloc 0 ar.arg (.ref a) hN hσ (Or.inl hka)
    obtain rfl : u = Value.ref a := ru
    rcases look with ⟨_, z⟩ | ⟨z, _⟩
    · exact z
    · rcases z with z | z <;> rw [hka] at z <;> cases z
  refine PySem.ks_wpAt_execs_cons (PySem.ks_wpAt_Expr_any (PySem.ks_wpAt_MethodCall (pl := pl) ?_ hc) hi hs)
  have hD := X1 _ _ hC
  refine PySem.ks_wpAt_super_base hks hkc (by decide) hfu (X1 _ _ lk) rfl hp hco (X1 _ _ hcode) rfl hvs hfile S.top ?_
  refine PySem.W.ks_loadName_global I.ok.kind hks (Calls.loadGlobal_builtin (by rw [I.ok.glob]; exact I.mod.glob.keeps I.bk) hms (by rw [I.ok.blt]; exact hb1.keeps I.bk) ((hb2 _ (by decide +kernel)).trans PyProof.Rows.Boot.super) ⟨rfl, ?_⟩)
  refine wpAny_loadName_free I.ok.kind hkc hcl ⟨_, X1 _ _ hcell, rfl⟩ ?_
  refine wpAny_loadName_local I.ok.kind hka hns self ?_
  refine PySem.ks_wpAny_isType_cls hD rfl ⟨rfl, ?_⟩
  refine PySem.ks_wpAny_call_super hD rfl hx rfl (fun c z => by cases z) (PySem.W.looks_mroIn X1 S.self) fun h2 hso kk => ?_
  have I2 : Inv X pins σ H ⟨h2, g, d, t0, os⟩ := I.kept kk
  have X2 : X.K.In h2 := I2.kIn
  have J2 : PySem.W.InstAt h2 a _ D none := ⟨kk _ _ hx, rfl, rfl, trivial⟩
  cases hcd : PySem.W.clsIn X.K D with
  | none =>
    have z := S.sup
    unfold PySem.W.ks_superIn at z
    rw [hcd] at z
    cases z
  | some cd =>
    have sup := S.sup
    unfold PySem.W.ks_superIn at sup
    rw [hcd] at sup
    refine PySem.W.kxs_getMethod PySem.W.kxs_ValueError hso (PySem.W.looks_opaque X2 S.opq) (l₀ := cd.mro) (fun A Q E s k q => wpAny_bind ((PySem.W.looks_clsIn X2 hcd) A _ E s k (wpAny_pure q))) rfl X2 sup (J2.type.andThen (PySem.W.looks_subIn X2 S.ve)) (PySem.W.ks_ne X2 J2 hcd) (by decide) ?_
    have push : ∀ b o, h2.get? b = some o → (h2.push (PySem.W.kxs_mw "ValueError.__init__" a)).get? b = some o := fun b o z => Heap.get?_push_of_some _ z
    have I3 : Inv X pins σ H ⟨h2.push (PySem.W.kxs_mw "ValueError.__init__" a), g, d, t0 + 1, os⟩ := I2.kept push
    have hu : (h2.push (PySem.W.kxs_mw "ValueError.__init__" a)).get? h2.objs.size = some (PySem.W.kxs_mw "ValueError.__init__" a) := Heap.get?_push_size _ rfl
    have below : ∀ b, (∃ o, h2.get? b = some o) → h2.objs.size ≠ b := fun b ⟨o, z⟩ => Ne.symm (Nat.ne_of_lt (Heap.lt_size z))
    have I4 : Inv X ((h2.objs.size, PySem.W.kxs_mw "ValueError.__init__" a) :: pins) σ H ⟨h2.push (PySem.W.kxs_mw "ValueError.__init__" a), g, d, t0 + 1, os⟩ := I3.pins_of fun p hp => by
      rcases List.mem_cons.mp hp with rfl | hp
      · refine ⟨hu, I2.hok.fresh (Nat.le_refl _), ?_, fun z => ?_, fun v z => by cases z⟩
        · obtain ⟨m2, ⟨o, es, ep, z, _⟩, _⟩ := I2.loc
          exact below _ ⟨o, z⟩
        · obtain ⟨_, o, z1, _⟩ := I2.ok.funs.mem z
          obtain ⟨o2, z2⟩ := I2.base.there _ o z1 fun w => I2.ok.exfs _ w z
          exact below _ ⟨o2, z2⟩ rfl
      · exact I3.pin p (List.mem_append_right _ hp)
    have args := (pa_cons (hs := hst) he pa_nil).run pos _ _ σ H (fun vs H2 => vs.length = 1 ∧ Ex H H2) I4 (hv H (Ex.refl H) _ fun v H2 e2 _ => ⟨rfl, e2⟩)
    rw [hst] at args ⊢
    refine PySem.W.kxs_callWith (i := "ValueError.__init__") (x := a) (by show (false || (backTo pos (starEach [] X.env)).any (·.1)) = false; rw [hpl]; rfl) (PySem.Calls.evalArgs_plain (thn args fun us s4 got => ?_))
    obtain ⟨vs, H4, I5, r5, ev, e4⟩ := got
    have hu4 : s4.heap.get? h2.objs.size = some (PySem.W.kxs_mw "ValueError.__init__" a) := (I5.pin (h2.objs.size, PySem.W.kxs_mw "ValueError.__init__" a) (List.mem_append_right _ List.mem_cons_self)).1
    refine ⟨hu4, ?_⟩
    have ha4 := e4 _ _ ha
    obtain ⟨t4, hx4⟩ := exo_at I5.hok ha4
    have X5 := I5.kIn
    obtain ⟨h4, g4, d4, tk4, os4⟩ := s4
    refine call_mw F.excBase_ValueError (X5 _ _ hC) hu4 hx4 (by show us.length ≤ sizeLine; rw [← r5.length, ev, sizeLine_eq]; omega) fun h5 t5 k6 hx5 => ?_
    have J5 := I5.write (t' := tk4) (x := a) (e := a) (o := exo a D none) (by rw [ha4]; exact True.intro) (.inl rfl) k6 ⟨_, hx5⟩ (exo_ok hx5)
    have eu : upd H4 a (exo a D none) = H4 := by
      funext b
      by_cases hb : b = a
      · rw [hb, upd_same, ha4]
      · rw [upd_ne hb]
    rw [eu] at J5
    have J6 : Inv X pins σ H4 ⟨h5, g4, d4, tk4, os4⟩ := J5.pins_of fun p hp => J5.pin p (List.mem_append_right _ (List.mem_cons_of_mem _ hp))
    exact wpAt_of_wpAny (hrest.run pins _ σ H4 Dn J6 (q H4 e4))
/-- an __init__ that says super().__init__ first: its frame -/
abbrev nfS (qual : Str) (st : Stmt) (cc cda : Addr) : NdefX.NF := ⟨"__init__", qual, C8.fnArgs st, C8.fnBody st, C8.fnScope st, [("__class__", cc)], cda⟩
section
variable {P : Program} {w : World} {K : PySem.W.Frag} {mg : Str → Option Value} {base : Heap}
theorem fn_sup {qual : Str} {st : Stmt} {f D cc cda : Addr} {oc kV doc pm ct : Value} {od an : Option Addr} {osl : Array (Option Value)} {N ps : List Str} {k : Nat} {sp : Sp}
    (lk : K.lookup f = some ⟨oc, od, .func (PySem.W.fnX "__init__" qual (C8.fnArgs st) (C8.fnBody st) (C8.fnScope st) [("__class__", cc)] .none kV doc pm an (.ref cda) ct), osl⟩) (hcd : PySem.W.codeIn K (.ref cda) qual = true) (hcc : ∃ cl cld csl, K.lookup cc = some ⟨cl, cld, .cell (some (.ref D)), csl⟩)
    (S : NdefX.NScope N ps ["__class__"] (C8.fnScope st)) (len : ∀ vs H Q E, sp vs H Q E → vs.length = ps.length)
    (hbody : ∀ (A : Around) (outer : List Env) (s s1 : Shared) (H : Hp) (vs : List V) (Q : VK) (E : XK), Room k (A.deeper (NdefX.envF (nfS qual st cc cda) f s.heap.objs.size)) → sp vs H Q E → Inv (NdefX.ncx C8.CX0 P w K mg base N (nfS qual st cc cda) f A outer s H E) [] (NdefX.startF N vs [some (.ref D)]) H s1 →
      _root_.PySem.wpAt (model P w) (A.deeper (NdefX.envF (nfS qual st cc cda) f s.heap.objs.size)) (.func (C8.fnBody st) (NdefX.envF (nfS qual st cc cda) f s.heap.objs.size)) (execs (C8.fnBody st) (NdefX.envF (nfS qual st cc cda) f s.heap.objs.size))
        (SP (NdefX.ncx C8.CX0 P w K mg base N (nfS qual st cc cda) f A outer s H E) [] { nx := fun _ H' => Q .non H', rt := Q }) (NdefX.ncx C8.CX0 P w K mg base N (nfS qual st cc cda) f A outer s H E).xe s1) :
    FnOk P w K mg base C8.CX0 (k + 1) f (PySem.W.fnX "__init__" qual (C8.fnArgs st) (C8.fnBody st) (C8.fnScope st) [("__class__", cc)] .none kV doc pm an (.ref cda) ct) ps sp := by
  refine ⟨len, fun A outer s H args us vs Q E room st0 bnd vals ok => ?_⟩
  have kin : K.In s.heap := st0.mod.kin.keeps fun b o z => (st0.bs b o z).1
  have nolim : s.heap.NoLimit := st0.mod.nolimit.keeps fun b o z => (st0.bs b o z).1
  have many : vs.length = ps.length := len _ _ _ _ ok
  obtain ⟨cl, cld, csl, hcell⟩ := hcc
  have one : ∀ y c, ([("__class__", cc)] : List (Str × Addr)).lookup y = some c → y = "__class__" ∧ c = cc := fun y c e => by
    cases List.mem_singleton.mp (PySem.mem_of_lookup e)
    exact ⟨rfl, rfl⟩
  have at_ : s.heap.IsCell cc (some (.ref D)) := ⟨_, kin _ _ hcell, rfl⟩
  have cells : NdefX.CellsAt [("__class__", cc)] ["__class__"] [some (.ref D)] s.heap H := by
    refine ⟨rfl, fun y c e => ?_, fun x y c e1 e2 => (one x c e1).1.trans (one y c e2).1.symm, fun i y e => ?_⟩
    · rw [(one y c e).2]
      exact ⟨(st0.bs cc _ (st0.mod.kin cc _ hcell)).2, _, at_⟩
    · cases i with
      | zero =>
        rw [List.getElem?_cons_zero] at e
        injection e with e
        subst e
        refine ⟨cc, rfl, fun v ev => ⟨.ref D, ?_, at_⟩⟩
        rw [List.getElem?_cons_zero] at ev
        injection ev with ev
        injection ev with ev
        subst ev
        rfl
      | succ i => simp at e
  refine PySem.ks_codeAny_call_defAt (fd := PySem.W.fnX "__init__" qual (C8.fnArgs st) (C8.fnBody st) (C8.fnScope st) [("__class__", cc)] .none kV doc pm an (.ref cda) ct) (body := C8.fnBody st) (binds := ps.zip us) room.depth (kin f _ lk) rfl nolim (PySem.W.codeRec_of kin hcd) rfl bnd S.nocell (fun y hy => S.par y.1 (List.of_mem_zip (show (y.1, y.2) ∈ ps.zip us from hy)).1) (fun h0 hns keep => ?_) S.co S.gen S.kind
  have I : Inv (NdefX.ncx C8.CX0 P w K mg base N (nfS qual st cc cda) f A outer s H E) [] (NdefX.startF N vs [some (.ref D)]) H { s with heap := h0, toks := s.toks + (ps.zip us).length } := NdefX.inv_startN S room.hd st0 many vals cells hns keep
  refine PySem.ks_wpAt_mono (hbody A outer s _ H vs Q E (room.deeper _) ok I) (fun fl s2 done => ?_) fun _ _ z => z
  match fl, done with
  | .ret u, ⟨v, σ2, H2, J, rv, q⟩ => exact ⟨v, H2, J.os, J.bare, J.base, J.hok, rv, q⟩
  | .next, ⟨σ2, H2, J, q⟩ => exact ⟨V.non, H2, J.os, J.bare, J.base, J.hok, rfl, q⟩
  | .brk, ⟨_, _, _, q⟩ => exact q.elim
  | .cont, ⟨_, _, _, q⟩ => exact q.elim
end
/-- X(..), X with such an __init__: the new exception -/
def tMkX (C : Addr) (sp : Sp) (ta : TA) : TE := fun σ H Q => ta σ H fun vs H1 => vs.length ≤ 1000 ∧ ∀ a, H1 a = none → sp (.ref a :: vs) (upd H1 a (exo a C none)) (fun v H2 => v = .non ∧ Q (.ref a) H2) C8.E0
theorem pe_mkX {X : Cx} {x : Str} {C fI : Addr} {k j : Nat} {fd : FuncData} {ps : List Str} {sp : Sp} {e : Expr} {es : List Expr} {ta : TA} {p pos : Pos} (T : OexC X.K C) (iC : PySem.W.findIn X.K (.ref C) "__init__" = some (some (.ref fI))) (tI : PySem.W.typeIn X.K (.ref fI) = some (.type "function"))
    (F1 : FnOk X.prog X.w X.K X.mg X.base C8.CX0 k fI fd ps sp) (hr : Room j X.A) (hk : k + 1 ≤ j) (hb : Binds X.K fd ps []) (hg : Gl X x) (hm : X.mg x = some (.ref C)) (ha : PA X (e :: es) ta) (hdb : (x == ("__debug__" : Str)) = false := by decide)
    (he : starEach (e :: es) X.env = (false, eval e X.env) :: starEach es X.env := by rfl) (hpl : (backTo pos (starEach es X.env)).any (·.1) = false := by rfl) : PE X (.Call (.Name x p) (e :: es) [] pos) (tMkX C sp ta) := by
  constructor
  intro pins s σ H Q I h
  obtain ⟨nm, q, N, bs, bm, sn, sub, ab, col, dd, k0, k1, k2, k3, k5, hC, hbm⟩ := T.cls
  refine wpAny_Call_Name_kw (ld_glob I hg hm (PySem.W.callWith_K (h₀ := X.base) I.ok.mod.kin T.kC (thn (ha.run pos pins s σ H _ I h) fun us s1 got => ?_) he hpl) hdb)
  obtain ⟨vs, H1, I1, r1, hz, q1⟩ := got
  refine ⟨I1.kIn, ?_⟩
  show wpAny _ _ (call (.ref C) us) _ _ _
  obtain ⟨hp, g, dr, tk, os⟩ := s1
  have hq := q1 (hp.objs.size + 1) (I1.hok.fresh (Nat.le_succ _))
  have grow : ∀ b o, hp.get? b = some o → ((hp.push (PySem.W.kdv_tup us)).push (PySem.HandSPX.excO C hp.objs.size)).get? b = some o := fun b o z => Heap.get?_push_of_some _ (Heap.get?_push_of_some _ z)
  have there : ((hp.push (PySem.W.kdv_tup us)).push (PySem.HandSPX.excO C hp.objs.size)).get? (hp.objs.size + 1) = some (PySem.HandSPX.excO C hp.objs.size) := by heap_get
  have J : Inv X pins σ (upd H1 (hp.objs.size + 1) (exo (hp.objs.size + 1) C none)) ⟨(hp.push (PySem.W.kdv_tup us)).push (PySem.HandSPX.excO C hp.objs.size), g, dr, tk, os⟩ := I1.laid grow (Nat.le_succ _) (exo_ok there)
  have vals : Vals (V.ref (hp.objs.size + 1) :: vs) (Value.ref (hp.objs.size + 1) :: us) := .cons rfl r1
  have many : (Value.ref (hp.objs.size + 1) :: us).length = ps.length := vals.length.symm.trans (F1.len _ _ _ _ hq)
  have bound := hb ⟨(hp.push (PySem.W.kdv_tup us)).push (PySem.HandSPX.excO C hp.objs.size), g, dr, tk, os⟩ (Value.ref (hp.objs.size + 1) :: us) J.kIn (by rw [List.append_nil]; exact many)
  rw [List.append_nil] at bound
  have small : us.length ≤ sizeLine := by
    rw [← r1.length, sizeLine_eq]
    omega
  refine wpAny_call (PySem.HandSPX.call_own F.excBase_ValueError (fun Y => PySem.HandSPX.refsVE_contains Y bm hbm) (I1.kIn _ _ hC) (PySem.W.looks_findIn I1.kIn iC) (fun self => PySem.W.bind_fn I1.kIn self tI) small
    (codeAny_mono (F1.run _ X.stack _ _ _ _ _ _ C8.E0 ((hr.mono hk).make C us []) (J.env0.make C us []) bound vals hq) fun res s2 got => ?_))
  match res, got with
  | .error _, got => exact False.elim got
  | .ok (.ret u), got =>
    obtain ⟨v, H3, J3, rv, ev, q3⟩ := J.after got
    subst ev
    exact ⟨rv, ⟨V.ref (hp.objs.size + 1), H3, J3, rfl, q3⟩⟩
  | .ok .next, got => exact False.elim got
  | .ok .brk, got => exact False.elim got
  | .ok .cont, got => exact False.elim got
/-- what such an __init__ promises: the fields of these arguments -/
def spX (C : Addr) (Dm : List V → Prop) (mk : List V → List (Str × V)) : Sp := fun vs H Q _ => ∃ (a : Addr) (as : List V), vs = .ref a :: as ∧ H a = some (exo a C none) ∧ Dm as ∧ as.length ≤ 1000 ∧ ∀ H2 d, (∀ b o, b ≠ a → H b = some o → H2 b = some o) → H2 a = some (exo a C (some d)) → H2 d = some (exd d (mk as)) → Q .non H2
theorem evw_mkX {σ : L2.St} {H : Hp} {C : Addr} {Dm : List V → Hp → Prop} {mk : List V → List (Str × V)} {ta : TA} {vs : List V} (h : EvA ta σ H vs) (hl : vs.length ≤ 1000) (sp : Sp) (hsp : ∀ H1 a Q, Ex H H1 → H1 a = none → (∀ H2 d, (∀ b o, b ≠ a → (upd H1 a (exo a C none)) b = some o → H2 b = some o) → H2 a = some (exo a C (some d)) → H2 d = some (exd d (mk vs)) → Q .non H2) → sp (.ref a :: vs) (upd H1 a (exo a C none)) Q C8.E0) :
    EvW (tMkX C sp ta) σ H (fun v H2 => ∃ a d, v = .ref a ∧ H2 a = some (exo a C (some d)) ∧ H2 d = some (exd d (mk vs))) := fun H1 e Q q =>
  h H1 e _ fun H2 e2 => ⟨hl, fun a na => hsp H2 a _ (e.trans e2) na fun H3 d keep h1 h2 => ⟨rfl, q _ H3 (e2.trans fun b o hb => keep b o (ne_of_none hb na) (by rw [upd_ne (ne_of_none hb na)]; exact hb)) ⟨a, d, rfl, h1, h2⟩⟩⟩
/-! {t}, t a tuple of numbers -/
theorem repr_nums {prog : Program} {w : World} : ∀ {l : List Int} {its : List Value}, Vals (l.map V.int) its → (∀ i ∈ l, i.natAbs.log2 < 1920) → ReprAll prog w its (l.map fun i => Str.ofString (toString i))
  | [], _, r, _ => by
    cases r
    exact .nil
  | i :: l, _, r, h => by
    cases r with
    | cons r1 r2 =>
      obtain ⟨t, rfl⟩ := r1
      exact .cons (ReprIs.int t (h i List.mem_cons_self)) (repr_nums r2 fun z hz => h z (List.mem_cons_of_mem _ hz))
theorem piled_nums : ∀ l : List Int, (∀ i ∈ l, i.natAbs.log2 < 1920) → piled (l.map fun i => Str.ofString (toString i)) ≤ 2000 * l.length
  | [], _ => Nat.zero_le _
  | i :: l, h => by
    have h1 := int_text_len_1921 (h i List.mem_cons_self)
    have h2 := piled_nums l fun z hz => h z (List.mem_cons_of_mem _ hz)
    rw [List.map_cons, piled_cons, List.length_cons]
    omega
def tFmtN (K : PySem.W.Frag) (te : TE) : TE := fun σ H Q => te σ H fun x H1 => ∃ (a : Addr) (l : List Int), x = .ref a ∧ SqT K H1 a (l.map V.int) ∧ (∀ i ∈ l, i.natAbs.log2 < 1920) ∧ l.length ≤ 4 ∧ ∀ m : Str, m.length ≤ 10000 → Q (.str m) H1
theorem pe_fmtN {X : Cx} {e : Expr} {te : TE} {pos : Pos} {k : Nat} (hr : Room k X.A) (he : PE X e te) : PE X (.FormattedValue e (-1) none pos) (tFmtN X.K te) := by
  constructor
  intro pins s σ H Q I h
  refine wpAny_FormattedValue_plain (thn (he.run pins s σ H _ I h) fun v s1 got => ?_)
  obtain ⟨x, H1, I1, r1, a, l, ex, ht, hb, hl, q⟩ := got
  subst ex
  obtain rfl : v = Value.ref a := r1
  obtain ⟨its, rv, ⟨o, ho, hcl, n, hd⟩, _⟩ := I1.tuple ht
  have h1 := piled_nums l hb
  have h2 := fmt_text (l.map fun i => Str.ofString (toString i))
  have hu := hr.units
  refine fmt_tuple (ts := l.map fun i => Str.ofString (toString i)) (by omega) ho hcl hd (repr_nums rv hb) (Nat.le_trans (m := 10000) (by omega) (by decide)) fun m u tk hm => ⟨.str m, H1, I1.tok _, ⟨u, rfl⟩, q m (by omega)⟩
end Tk
namespace Tk
open PySem PySem.Spec PyProof.Rows L2 Evl
/-! an expression with two readings -/
def tOr2 (t1 t2 : TE) : TE := fun σ H Q => t1 σ H Q ∨ t2 σ H Q
theorem pe_or2 {X : Cx} {e : Expr} {t1 t2 : TE} (h1 : PE X e t1) (h2 : PE X e t2) : PE X e (tOr2 t1 t2) := ⟨fun pins s σ H Q I h => h.elim (h1.run pins s σ H Q I) (h2.run pins s σ H Q I)⟩
section
variable {t1 t2 : TE} {σ : L2.St} {H : Hp} {v : V} {W : V → Hp → Prop}
theorem ev_orL (h : Ev t1 σ H v) : Ev (tOr2 t1 t2) σ H v := fun H1 e Q q => .inl (h H1 e Q q)
theorem ev_orR (h : Ev t2 σ H v) : Ev (tOr2 t1 t2) σ H v := fun H1 e Q q => .inr (h H1 e Q q)
theorem evw_orL (h : EvW t1 σ H W) : EvW (tOr2 t1 t2) σ H W := fun H1 e Q q => .inl (h H1 e Q q)
theorem evw_orR (h : EvW t2 σ H W) : EvW (tOr2 t1 t2) σ H W := fun H1 e Q q => .inr (h H1 e Q q)
end
/-! defs that raise -/
structure CalX (P : Program) (w : World) (K : PySem.W.Frag) (mg : Str → Option Value) (base : Heap) (k : Nat) (x : Str) (sp : Sp) : Prop where
  ex : ∃ (f : Addr) (fd : FuncData) (ps : List Str), FnOk P w K mg base (L2.CX P w) k f fd ps sp ∧ mg x = some (.ref f) ∧ PySem.W.keepIn K (.ref f) = true ∧ Binds K fd ps []
structure MetX (P : Program) (w : World) (K : PySem.W.Frag) (mg : Str → Option Value) (base : Heap) (k : Nat) (C : Addr) (m : Str) (sp : Sp) : Prop where
  ex : ∃ (f : Addr) (fd : FuncData) (ps : List Str), Cls K C ∧ Meth K C m f ∧ FnOk P w K mg base (L2.CX P w) k f fd ps sp ∧ Binds K fd ps []
section
variable {P : Program} {w : World} {K : PySem.W.Frag} {mg : Str → Option Value} {base : Heap}
theorem fnX7 {x qual : Str} {st : Stmt} {f : Addr} {fd : FuncData} {N ps : List Str} {k : Nat} {sp : Sp} (F : C8.Fun K x qual st f fd) (S : FnScope N ps (C8.fnScope st)) (len : ∀ vs H Q E, sp vs H Q E → vs.length = ps.length)
    (hbody : ∀ (cdv : Value) (A : Around) (outer : List Env) (s : Shared) (H : Hp) (vs : List V) (Q : VK) (E : XK), Room k (A.deeper (envOfC qual (C8.fnScope st) s.heap.objs.size f cdv)) → sp vs H Q E →
      ∃ t, PSs (cxOf (L2.CX P w) P w K mg base N qual (C8.fnScope st) f cdv A outer s H E) (C8.fnBody st) t ∧ t { nx := fun _ H' => Q .non H', rt := Q } (start N vs) H) : FnOk P w K mg base (L2.CX P w) (k + 1) f fd ps sp := by
  obtain ⟨oc, od, dV, kV, doc, pm, an, cdv, ct, osl, rfl, lk, hcd⟩ := F.ex
  exact fn_of lk hcd S len fun A outer s H vs Q E hr hsp => hbody cdv A outer s H vs Q E hr hsp
theorem calX {x : Str} {st : Stmt} {f : Addr} {fd : FuncData} {N ps : List Str} {k : Nat} {sp : Sp} (F : C8.Def K mg x st f fd) (b : Binds K fd ps []) (S : FnScope N ps (C8.fnScope st)) (len : ∀ vs H Q E, sp vs H Q E → vs.length = ps.length)
    (hbody : ∀ (cdv : Value) (A : Around) (outer : List Env) (s : Shared) (H : Hp) (vs : List V) (Q : VK) (E : XK), Room k (A.deeper (envOfC x (C8.fnScope st) s.heap.objs.size f cdv)) → sp vs H Q E →
      ∃ t, PSs (cxOf (L2.CX P w) P w K mg base N x (C8.fnScope st) f cdv A outer s H E) (C8.fnBody st) t ∧ t { nx := fun _ H' => Q .non H', rt := Q } (start N vs) H) : CalX P w K mg base (k + 1) x sp :=
  ⟨f, fd, ps, fnX7 F.fn S len hbody, F.mgf, F.kp, b⟩
theorem metX {m qual : Str} {C : Addr} {st : Stmt} {f : Addr} {fd : FuncData} {N ps : List Str} {k : Nat} {sp : Sp} (c : Cls K C) (me : Meth K C m f) (F : C8.Fun K m qual st f fd) (b : Binds K fd ps []) (S : FnScope N ps (C8.fnScope st)) (len : ∀ vs H Q E, sp vs H Q E → vs.length = ps.length)
    (hbody : ∀ (cdv : Value) (A : Around) (outer : List Env) (s : Shared) (H : Hp) (vs : List V) (Q : VK) (E : XK), Room k (A.deeper (envOfC qual (C8.fnScope st) s.heap.objs.size f cdv)) → sp vs H Q E →
      ∃ t, PSs (cxOf (L2.CX P w) P w K mg base N qual (C8.fnScope st) f cdv A outer s H E) (C8.fnBody st) t ∧ t { nx := fun _ H' => Q .non H', rt := Q } (start N vs) H) : MetX P w K mg base (k + 1) C m sp :=
  ⟨f, fd, ps, c, me, fnX7 F S len hbody, b⟩
end
section
variable {X : Cx} {k j : Nat} {sp : Sp} {E : XK} {W : WX} {C : Addr} {x m : Str} {p pos apos : Pos} {e o : Expr} {es : List Expr} {ta : TE} {t : TA}
theorem pe_cX (c : CalX X.prog X.w X.K X.mg X.base k x sp) (hx : Passes (L2.CX X.prog X.w) X E) (hr : Room j X.A) (hk : k ≤ j) (hg : Gl X x) (ha : PA X (e :: es) t)
    (hdb : (x == ("__debug__" : Str)) = false := by decide) (he : starEach (e :: es) X.env = (false, eval e X.env) :: starEach es X.env := by rfl) (hpl : (backTo pos (starEach es X.env)).any (·.1) = false := by rfl) :
    PE X (.Call (.Name x p) (e :: es) [] pos) (tCall sp [] E t) := by
  obtain ⟨f, fd, ps, F, hm, kp, b⟩ := c.ex
  exact pe_call F (hr.mono hk) hg hm kp b .nil hx ha hdb he hpl
/-- in a try -/
theorem pe_cT (c : CalX X.prog X.w X.K X.mg X.base k x sp) (tk : Takes X W) (hr : Room j X.A) (hk : k ≤ j) (hg : Gl X x) (ha : PA X (e :: es) t)
    (hdb : (x == ("__debug__" : Str)) = false := by decide) (he : starEach (e :: es) X.env = (false, eval e X.env) :: starEach es X.env := by rfl) (hpl : (backTo pos (starEach es X.env)).any (·.1) = false := by rfl) :
    PE X (.Call (.Name x p) (e :: es) [] pos) (tCallS sp (WE W) t) := by
  obtain ⟨f, fd, ps, F, hm, kp, b⟩ := c.ex
  exact pe_callS F (hr.mono hk) hg hm kp b (fun σ => passAt tk σ) ha hdb he hpl
theorem own_takes {K : PySem.W.Frag} {mg : Str → Option Value} {base : Heap} {P : Program} {w : World} {N : List Str} {qual : Str} {sc : Scope} {f : Addr} {cdv : Value} {A : Around} {outer : List Env} {s : Shared} {H : Hp} {E : XK} : Passes (L2.CX P w) (cxOf (L2.CX P w) P w K mg base N qual sc f cdv A outer s H E) E :=
  passes_call (takes_of rfl rfl rfl rfl) fun _ _ _ _ h => h
end
/-! an exception that was caught, kept as a value -/
def ExK (cls : Value) (d : Option Addr) (a : Addr) : HO := .ext fun h => ∃ (oe : Obj) (vs : Array Value), h.get? a = some oe ∧ Zc cls d oe ∧ oe.data = .fields vs
theorem exK_ok {P : Program} {w : World} {H : Hp} {h : Heap} {a : Addr} {cls : Value} {d : Option Addr} {oe : Obj} {vs : Array Value} (e : h.get? a = some oe) (z : Zc cls d oe) (hd : oe.data = .fields vs) : ObjOk P w H h a (ExK cls d a) :=
  ⟨⟨oe, vs, e, z, hd⟩, ⟨oe, e⟩, fun _ _ ⟨o, v, q, r⟩ k => ⟨o, v, k o q, r⟩⟩
theorem exK_at {P : Program} {w : World} {H : Hp} {h : Heap} {a : Addr} {cls : Value} {d : Option Addr} (ok : HOk P w H h) (e : H a = some (ExK cls d a)) : ∃ (oe : Obj) (vs : Array Value), h.get? a = some oe ∧ Zc cls d oe ∧ oe.data = .fields vs := by
  have x : ObjOk P w H h a (.ext fun h => ∃ (oe : Obj) (vs : Array Value), h.get? a = some oe ∧ Zc cls d oe ∧ oe.data = .fields vs) := ok a _ e
  exact x.1
section
variable {X : Cx} {pins : List (Addr × Obj)} {σ : L2.St} {H : Hp} {sI s' : Shared} {B h4 : Heap} {a : Addr} {cls : Value} {d : Option Addr}
theorem landedK (J : Inv X pins σ H sI) (nb : ∀ b o, sI.heap.get? b = some o → b ∉ frs X.stack → B.get? b = some o) {l : List Env} (fl : HandSPX.FlyingZ B l a (Zc cls d) h4) (up : sI.heap.UpToSlots h4) (os : s'.os = sI.os) (ag : AllBare s'.gens) (na : H a = none) (nfr : a ∉ frs X.stack) :
    Inv X pins σ (upd H a (ExK cls d a)) { s' with heap := h4 } := by
  obtain ⟨oe, vs, he, hz, hd⟩ := fl.there
  have hB : B.get? a = none := fl.2.1
  have st : B.StaysIn h4 := fl.1
  have hsI : sI.heap.get? a = none := by
    cases e : sI.heap.get? a with
    | none => rfl
    | some o =>
      have z := nb a o e nfr
      rw [hB] at z
      cases z
  obtain ⟨G, g1, g2⟩ := L2.restrict h4 fun b => decide (b ≠ a)
  have gk : ∀ b o, b ≠ a → h4.get? b = some o → G.get? b = some o := fun b o hb e => by
    rw [g1 b (decide_eq_true hb)]
    exact e
  have ga : G.get? a = none := g2 a (decide_eq_false fun z => z rfl)
  have gs : ∀ b o, G.get? b = some o → h4.get? b = some o := fun b o e => by
    by_cases hb : b = a
    · rw [hb, ga] at e
      cases e
    · rw [← g1 b (decide_eq_true hb)]
      exact e
  have J3 : Inv X pins σ H { s' with heap := G } := J.landed (s' := { s' with heap := G }) nb (fun b o e => gk b o (fun z => by
    rw [z, hB] at e
    cases e) (st b o e)) (fun b o e nd => by
      obtain ⟨sl, q⟩ := up b o e nd
      exact ⟨sl, gk b _ (fun z => by
        rw [z, hsI] at e
        cases e) q⟩) os ag
  exact J3.laidN (h' := h4) (t' := s'.toks) gs ga na (exK_ok he hz hd)
theorem Inv.suiteK {X : Cx} {pins : List (Addr × Obj)} {σ : L2.St} {H : Hp} {s : Shared} (I : Inv X pins σ H s) (a : Addr) : Inv (X.suite a (X.pn ++ pins)) [] σ H s :=
  ⟨I.ok.suite _ _, I.os, I.bare, I.base, I.loc, I.cell, I.free, I.freeC, fun p hp => I.pin p (by rw [List.append_nil] at hp; exact hp), I.hok, I.len⟩
theorem Inv.unsuiteK {X : Cx} {pins pn' : List (Addr × Obj)} {σ : L2.St} {H : Hp} {s : Shared} {a : Addr} (I : Inv (X.suite a (X.pn ++ pins)) pn' σ H s) (ok : X.Ok) : Inv X pins σ H s :=
  ⟨ok, I.os, I.bare, I.base, I.loc, I.cell, I.free, I.freeC, fun p hp => I.pin p (List.mem_append_left _ hp), I.hok, I.len⟩
end
/-- what the clause 'except x as n: ..' that keeps it wishes of an exception of the body: slot i is n's -/
def wKeep (K : PySem.W.Frag) (c : Value) (i : Nat) (ts : TS) (Wout : WX) (D : Ends) : WX := fun cls d σ H =>
  ∃ b, PySem.W.exmOne K cls c = some b ∧ (b = true → ∀ a, H a = none → ts { nx := fun σ' H' => D.nx (σ'.set i none) H', rt := D.rt, bk := fun σ' H' => D.bk (σ'.set i none) H', ct := fun σ' H' => D.ct (σ'.set i none) H' } (σ.set i (some (.ref a))) (upd H a (ExK cls d a))) ∧
    (b = false → Wout cls d σ H)
section
variable {X : Cx} {x n : Str} {c : Value} {i : Nat} {body suite : List Stmt} {b₀ : Stmt} {np pos pos' : Pos} {tb : WX → TS} {ts : TS} {Wout : WX}
theorem ps_try_keep (hs : X.stack = X.env :: X.outer) (hf : X.env.frame = some X.env.locals) (hN : X.N.Nodup) (hi : X.N[i]? = some n) (hln : X.env.kindOf n = some .local) (hc : Names X x c) (tk : Takes X Wout)
    (hb : ∀ (W : WX) (pn : List (Addr × Obj)) (xe : Value → Shared → Prop), Takes (X.tr pn xe) W → PassesOwn (model X.prog X.w) X.A X.env xe → PSs (X.tr pn xe) body (tb W))
    (hsu : ∀ (a : Addr) (pn : List (Addr × Obj)), PSs (X.suite a pn) (b₀ :: suite) ts) :
    PS X (.Try body [.ExceptHandler (some (.Name x np)) (some n) (b₀ :: suite) pos'] [] [] pos) (fun D σ H => tb (wKeep X.K c i ts Wout D) D σ H) := by
  refine ⟨fun pins s σ H D I h => ?_⟩
  have ok := I.ok
  have hfr : X.A.frames = some (X.env :: X.outer) := by rw [ok.frames, hs]
  have hloc : Loc X.env.scope n := .inl hln
  refine wpAny_Try_except ?_
  refine wpAny_mono ((hb (wKeep X.K c i ts Wout D) (X.pn ++ pins) (fun e s₁ => wpAny (model X.prog X.w) X.A (noteFrame e X.env) (fun _ s₂ => wpAny (model X.prog X.w) X.A (setFlight e none) (fun _ s₃ =>
    wpAny (model X.prog X.w) X.A (handleBy e X.env [.ExceptHandler (some (.Name x np)) (some n) (b₀ :: suite) pos']) (SP X pins D) X.xe s₃) X.xe s₂) X.xe s₁) (fun u s' xx => ?_) PassesOwn.looking).run [] s σ H D (I.toTry _) h) (fun f s1 hsp => ?_) (fun e s1 he => he)
  · obtain ⟨a, B, sI, pins', σ', H', cls, d, rfl, J', nb, up, sky, na, os, ag, b, hb1, hyes, hno⟩ := xx
    have J : Inv X pins σ' H' sI := J'.ofTry ok
    have sky' : Sky B (X.env :: X.outer) a (Zc cls d) X.env.locals s'.heap := by rw [← hs]; exact sky
    show wpAny (model X.prog X.w) X.A (noteFrame (.ref a) X.env) _ _ _
    refine Sky.land Zc.steady hfr hf sky' fun h3 fl3 up3 => ?_
    have J3 : Inv X pins σ' H' { s' with heap := h3 } := J.landed nb fl3.1 (up.trans up3) os ag
    obtain ⟨oe3, vs3, he3, hz3, hd3⟩ := fl3.there
    have notFr : ∀ {h : Heap} {o : Obj} {vs : Array Value}, h.FunFrames B (X.env :: X.outer) → h.get? a = some o → o.data = .fields vs → a ∉ frs (X.env :: X.outer) := fun {h o vs} ff e dd hm => by
      obtain ⟨_, o', e', hnf⟩ := ff.mem hm
      rw [e] at e'; cases e'
      exact hnf _ dd
    have nfr := notFr fl3.2.2.1 he3 hd3
    have nL : a ≠ X.env.locals := fun z => nfr (List.mem_filterMap.mpr ⟨X.env, List.mem_cons_self, by rw [hf, z]⟩)
    have nF : a ∉ X.fs := fun hm => by
      obtain ⟨e, he, q⟩ := List.mem_filterMap.mp hm
      exact nfr (List.mem_filterMap.mpr ⟨e, List.mem_cons_of_mem _ he, q⟩)
    have nfs : a ∉ frs X.stack := by rw [hs]; exact nfr
    have S3 := J3.suite he3 hd3 na nL nF
    refine wpAny_handleBy_cons (codeAny_handlers_test ?_) (by intro q; cases q)
    have LT : PySem.W.Looks (model X.prog X.w) h3 (typeOf (.ref a)) cls := fun A Q E s k q => wpAny_typeOf_ref (k _ _ he3) (by rw [hz3.1]; exact q)
    have LM := PySem.W.exm_one (M := model X.prog X.w) (J3.kIn) LT hb1
    have test : ∀ {Q : Value → Shared → Prop} {E : Value → Shared → Prop}, Q c { s' with heap := h3 } → wpAny (model X.prog X.w) (X.A.mark (some (.ref a))) (eval (.Name x np) X.env) Q E { s' with heap := h3 } := fun {Q E} q => by
      obtain ⟨hg, hdbg, hm | ⟨hm, hv, hnn⟩⟩ := hc
      · exact ld_glob (X := X.suite a ((a, oe3) :: (X.pn ++ pins))) S3 hg hm q hdbg
      · exact ld_blt (X := X.suite a ((a, oe3) :: (X.pn ++ pins))) S3 hg hm hv q hnn hdbg
    refine test (LM.here ?_)
    cases b with
    | true =>
      refine codeAny_handlers_suite_as ?_
      refine HandSPX.lands_againZ fl3 fun h4 fl4 up4 => ?_
      have J4 : Inv X pins σ' (upd H' a (ExK cls d a)) { s' with heap := h4 } := landedK J nb fl4 ((up.trans up3).trans up4) os ag na nfs
      have S4 := Inv.suiteK J4 a
      refine store_ok (X := X.suite a (X.pn ++ pins)) (v := .ref a) S4 hN hi hloc rfl (fun s5 S5 => ?_) (.inr hln)
      refine wpAny_mono ((hsu a (X.pn ++ pins)).run [] s5 _ _ _ S5 (hyes rfl a na)) (fun f s6 hsp => ?_) (fun _ _ z => False.elim z)
      have end_ : ∀ {σ6 : L2.St} {H6 : Hp} {Q : Shared → Prop}, Inv (X.suite a (X.pn ++ pins)) [] σ6 H6 s6 → (∀ s7, Inv X pins (σ6.set i none) H6 s7 → Q s7) →
          wpAny (model X.prog X.w) X.A (do bindName X.env n .none; unbindBehindTheSuite X.env n pos') (fun _ s7 => Q s7) X.xe s6 := fun {σ6 H6 Q} S6 hq => gone_ok (Inv.unsuiteK S6 ok) hN hi hln hq
      cases f with
      | next =>
        obtain ⟨σ6, H6, S6, q6⟩ := hsp
        exact end_ S6 fun s7 J7 => ⟨_, _, J7, q6⟩
      | brk =>
        obtain ⟨σ6, H6, S6, q6⟩ := hsp
        exact end_ S6 fun s7 J7 => ⟨_, _, J7, q6⟩
      | cont =>
        obtain ⟨σ6, H6, S6, q6⟩ := hsp
        exact end_ S6 fun s7 J7 => ⟨_, _, J7, q6⟩
      | ret u =>
        obtain ⟨v6, σ6, H6, S6, r6, q6⟩ := hsp
        exact end_ S6 fun s7 J7 => ⟨_, _, _, J7, r6, q6⟩
    | false =>
      show wpAny _ X.A (handleBy (.ref a) X.env []) _ _ _
      refine wpAny_handleBy_nil ?_
      obtain ⟨k1, k2, k3, oe, vs, T, oT, ts', he, hz, hd, h1, hr⟩ := id fl3
      unfold PySem.passOn
      refine wpAny_bind (wpAny_field he hd h1 ?_)
      rw [if_neg (show ¬ ((Value.ref T == Value.none) = true) from by simp)]
      have fin : wpAny (model X.prog X.w) X.A (setFlight (.ref a) X.env.frame) (fun _ s4 => wpAny (model X.prog X.w) X.A (throw (.ref a) : Sem Flow) (SP X pins D) X.xe s4) X.xe { s' with heap := h3 } := by
        rw [hf]
        refine HandSPX.setFlight_upZ fl3 fun h4 hh4 up4 => wpAny_throw (tk _ _ ?_)
        exact ⟨a, B, sI, pins, σ', H', cls, d, rfl, J, nb, (up.trans up3).trans up4, .inr (.inr (by rw [hs]; exact hh4)), na, os, ag, hno rfl⟩
      first
        | exact wpAny_bind (wpAny_pure (wpAny_bind fin))
        | exact wpAny_bind fin
  · cases f with
    | next =>
      obtain ⟨σ', H', J', q⟩ := hsp
      exact wpAny_execs_nil ⟨σ', H', J'.ofTry ok, q⟩
    | brk =>
      obtain ⟨σ', H', J', q⟩ := hsp
      exact ⟨σ', H', J'.ofTry ok, q⟩
    | cont =>
      obtain ⟨σ', H', J', q⟩ := hsp
      exact ⟨σ', H', J'.ofTry ok, q⟩
    | ret u =>
      obtain ⟨v, σ', H', J', r, q⟩ := hsp
      exact ⟨v, σ', H', J'.ofTry ok, r, q⟩
end
/-- a caught exception of the class D, as it stands: without fields, or with these -/
def KEx (H : Hp) (a D : Addr) (fs : Option (List (Str × V))) : Prop := match fs with
  | none => H a = some (ExK (.ref D) none a)
  | some fs => ∃ d, H a = some (ExK (.ref D) (some d) a) ∧ H d = some (.xd fs)
theorem KEx.mono {H H' : Hp} {a D : Addr} {fs : Option (List (Str × V))} (e : Ex H H') (h : KEx H a D fs) : KEx H' a D fs := by
  cases fs with
  | none => exact e _ _ h
  | some fs =>
    obtain ⟨d, h1, h2⟩ := h
    exact ⟨d, e _ _ h1, e _ _ h2⟩
theorem KEx.inst {P : Program} {w : World} {H : Hp} {h : Heap} {a D : Addr} {fs : Option (List (Str × V))} (ok : HOk P w H h) (z : KEx H a D fs) : ∃ ox od, PySem.W.InstAt h a ox D od := by
  cases fs with
  | none =>
    obtain ⟨oe, vs, g, hz, hd⟩ := exK_at ok z
    exact ⟨oe, none, ⟨g, hz.1, by unfold PySem.W.notCls; rw [hd] <;> rfl, by rw [hz.2] <;> trivial⟩⟩
  | some fs =>
    obtain ⟨d, h1, h2⟩ := z
    obtain ⟨oe, vs, g, hz, hd⟩ := exK_at ok h1
    have hx : ObjOk P w H h d (.xd fs) := ok d _ h2
    obtain ⟨mA, ⟨o, es, ep, ho, _⟩, _⟩ := hx
    exact ⟨oe, some o, ⟨g, hz.1, by unfold PySem.W.notCls; rw [hd] <;> rfl, by rw [hz.2]; exact ho⟩⟩
/-- isinstance(e, c) -/
def rIsK (K : PySem.W.Frag) : List V → Hp → VK → Prop := fun xs H Q => ∃ (a D : Addr) (fs : Option (List (Str × V))) (c : V) (cv : Value) (b : Bool), xs = [.ref a, c] ∧ ExcC K D ∧ KEx H a D fs ∧ ClsV c cv ∧ PySem.W.kitOne K (.ref D) cv = some b ∧ Q (.bl b) H
theorem call_isK {X : Cx} : CallR X (.builtin "isinstance") (rIsK X.K) := by
  intro pins s σ H xs us Q I r h
  obtain ⟨a, D, fs, c, cv, b, rfl, C, hx, hc, hk, q⟩ := h
  obtain ⟨u, u2, rfl, ru, ru2⟩ := vals2 r
  obtain rfl : u = Value.ref a := ru
  obtain rfl := hc.eq ru2
  obtain ⟨ox, od, J⟩ := hx.inst I.hok
  obtain ⟨cd, hcd, _⟩ := PySem.W.any_some C.hd
  exact PySem.W.kia_one (PySem.W.kitx_exc (by rw [hcd]; rfl) C.hg C.hk C.hs C.ha C.hn C.ht C.hm) I.kIn J hk (fun z => nomatch z) fun tk => ⟨.bl b, H, I.kept (t' := tk) fun _ _ z => z, rfl, q⟩
theorem ev_isK {K : PySem.W.Frag} {σ : L2.St} {H : Hp} {ta tb : TE} {a D : Addr} {fs : Option (List (Str × V))} {c : V} {cv : Value} {b : Bool} (ha : Ev ta σ H (.ref a)) (hb : Ev tb σ H c) (C : ExcC K D) (hx : KEx H a D fs) (hc : ClsV c cv) (hk : PySem.W.kitOne K (.ref D) cv = some b) : Ev (tCB (rIsK K) (tCons ta (tCons tb tNil))) σ H (.bl b) := fun H1 e Q q =>
  ha H1 e _ fun H2 e2 => hb H2 (e.trans e2) _ fun H3 e3 => ⟨a, D, fs, c, cv, b, rfl, C, hx.mono ((e.trans e2).trans e3), hc, hk, q H3 (e2.trans e3)⟩
/-- e.f -/
def tXk (K : PySem.W.Frag) (f : Str) (te : TE) : TE := fun σ H Q => te σ H fun x H1 => ∃ (a C : Addr) (fs : List (Str × V)) (v : V), x = .ref a ∧ ExcC K C ∧ PySem.W.findIn K (.ref C) f = some none ∧ KEx H1 a C (some fs) ∧ fs.lookup f = some v ∧ Q v H1
theorem pe_xk {X : Cx} {e : Expr} {te : TE} {pos : Pos} {f : Str} (he : PE X e te) (hb : attributeBase e f X.env (eval e X.env) = eval e X.env := by rfl) : PE X (.Attribute e f pos) (tXk X.K f te) := by
  constructor
  intro pins s σ H Q I h
  refine attr_of hb (thn (he.run pins s σ H _ I h) fun u s1 got => ?_)
  obtain ⟨x, H1, I1, rx, a, C, fs, v, ex, T, no, ⟨d, ha, hdd⟩, hl, q⟩ := got
  subst ex
  obtain rfl : u = Value.ref a := rx
  obtain ⟨oe, vs, g, hz, hd⟩ := exK_at I1.hok ha
  have hx : ObjOk X.prog X.w H1 s1.heap d (.xd fs) := I1.hok d _ hdd
  obtain ⟨mA, hns, hr⟩ := hx
  obtain ⟨od, ho, hlk⟩ := lookIn_ns hns
  obtain ⟨u, hu, ru⟩ := RelO.some_of (v := v) (o := mA f) (by rw [← hl]; exact hr f)
  have J : PySem.W.InstAt s1.heap a oe C (some od) := ⟨g, hz.1, by unfold PySem.W.notCls; rw [hd] <;> rfl, by rw [hz.2]; exact ho⟩
  exact HandSPX.exc_get I1.kIn J T.hg T.hk T.hs (PySem.W.findObj_own T.hd no rfl (by rw [hlk, hu])) (handed_of ru) ⟨v, H1, I1.tok _, ru, q⟩
theorem ev_xk {K : PySem.W.Frag} {σ : L2.St} {H : Hp} {te : TE} {a C : Addr} {fs : List (Str × V)} {v : V} {f : Str} (h : Ev te σ H (.ref a)) (T : ExcC K C) (no : PySem.W.findIn K (.ref C) f = some none) (hx : KEx H a C (some fs)) (hl : fs.lookup f = some v) : Ev (tXk K f te) σ H v := fun H1 e Q q =>
  h H1 e _ fun H2 e2 => ⟨a, C, fs, v, rfl, T, no, hx.mono (e.trans e2), hl, q H2 e2⟩
end Tk
namespace Tk
open PySem PySem.Spec PyProof.Rows L2 Evl
/-! [..].count(True) -/
def eqb (k : Bool) : Value → Bool
  | .bool b => b == k
  | _ => false
theorem vals_bools : ∀ {bs : List Bool} {us : List Value}, Vals (bs.map V.bl) us → us = bs.map Value.bool
  | [], _, .nil => rfl
  | b :: bs, _, .cons r h => by
    rw [vals_bools h]
    rw [show _ = Value.bool b from r]
    rfl
theorem count_bools (k : Bool) : ∀ bs : List Bool, (bs.map Value.bool).countP (eqb k) = bs.count k
  | [] => rfl
  | b :: bs => by
    rw [List.map_cons, List.countP_cons, List.count_cons, count_bools k bs]
    rfl
def rCntB (K : PySem.W.Frag) : V → List V → Hp → VK → Prop := fun x xs H Q => ∃ (p : Addr) (bs : List Bool) (k : Bool), x = .ref p ∧ xs = [.bl k] ∧ SqL K H p (bs.map V.bl) ∧ Q (.int (bs.count k : Nat)) H
theorem mt_countB {X : Cx} : MtR X "list.count" (rCntB X.K) := by
  intro pins s σ H x xs v us Q I rx rxs h
  obtain ⟨p, bs, k, rfl, rfl, hs, q⟩ := h
  cases rx
  obtain ⟨u, rfl, ru⟩ := rxs.one
  obtain rfl : u = Value.bool k := ru
  obtain ⟨its, rv, ⟨⟨cls, dd, data, sl⟩, n, ho, hc, hdn, hd⟩, hlen⟩ := I.list hs
  simp only at hc hd
  subst hc hd
  have hi := vals_bools rv
  subst hi
  refine call_meets PySem.F.slot_list_count ⟨_, ho, rfl⟩ PySem.F.entry_list_count (PySem.F.args_list_count_2 _ _)
    (SeqAt.list_countAt p (bs.map Value.bool).toArray n dd sl (.bool k) (eqb k)) ⟨ho, fun y hy => ?_, ?_⟩
  · obtain ⟨b, _, rfl⟩ := List.mem_map.mp (show y ∈ bs.map Value.bool by simpa using hy)
    exact PySem.SeqAt.EqAt.bool_bool b k
  · have ec : (bs.map Value.bool).toArray.toList.countP (eqb k) = bs.count k := count_bools k bs
    refine ⟨.int (bs.count k : Nat), H, I.tok _, ⟨s.toks, ?_⟩, q⟩
    show Value.int (((bs.map Value.bool).toArray.toList.countP (eqb k) : Nat) : Int) s.toks = Value.int ((bs.count k : Nat) : Int) s.toks
    rw [ec]
end Tk
namespace Tk
open PySem PySem.Spec PyProof.Rows L2 Evl
/-! a walked thing with two readings -/
def iOr2 (w1 w2 : TI) : TI := fun σ H R => w1 σ H R ∨ w2 σ H R
theorem pi_or2 {X : Cx} {tg iter : Expr} {w1 w2 : TI} (h1 : PI X tg iter w1) (h2 : PI X tg iter w2) : PI X tg iter (iOr2 w1 w2) := ⟨fun pins s σ H R I h => h.elim (h1.run pins s σ H R I) (h2.run pins s σ H R I)⟩
theorem evw_makeF {σ : L2.St} {H : Hp} {C : Addr} {E : XK} {Dm : List V → Prop} {J : List V → Addr → Addr → Hp → Hp → Prop} {tA : TA} {vs : List V} (h : EvA tA σ H vs) (hd : Dm vs) :
    EvW (tMake C (fun vs H Q _ => ∃ (x dx : Addr) (as : List V), vs = .ref x :: as ∧ H x = some (.ins C dx []) ∧ Dm as ∧ ∀ H2, (∀ b o, b ≠ x → H b = some o → H2 b = some o) → J as x dx H H2 → Q .non H2) [] E tA) σ H (fun v H2 => ∃ x dx H1, v = .ref x ∧ H x = none ∧ Ex H H1 ∧ J vs x dx H1 H2) := fun H1 e Q q =>
  h H1 e _ fun H2 e2 => fun x dx nx nd ne => by
    rw [List.append_nil]
    refine ⟨x, dx, vs, rfl, upd_same, hd, fun H3 k w => ⟨rfl, q _ H3 (e2.trans fun b o hb => ?_) ⟨x, dx, _, rfl, fresh_back (e.trans e2) nx, (e.trans e2).trans fun b o hb => ?_, w⟩⟩⟩
    · have n1 : b ≠ x := ne_of_none hb nx
      refine k b o n1 ?_
      rw [upd_ne n1, upd_ne (ne_of_none hb nd)]
      exact hb
    · rw [upd_ne (ne_of_none hb nx), upd_ne (ne_of_none hb nd)]
      exact hb
/-- what an __init__ promises, told at the heap ahead of it, too -/
abbrev spIH (C : Addr) (Dm : List V → Prop) (J : List V → Addr → Addr → Hp → Hp → Prop) : Sp := fun vs H Q _ => ∃ (x dx : Addr) (as : List V), vs = .ref x :: as ∧ H x = some (.ins C dx []) ∧ Dm as ∧ ∀ H2, (∀ b o, b ≠ x → H b = some o → H2 b = some o) → J as x dx H H2 → Q .non H2
end Tk
namespace Tk
open PySem PySem.Spec PyProof.Rows L2 Evl
/-- a def that raises, called where it does not -/
theorem passF {X : Cx} : Passes (L2.CX X.prog X.w) X (fun _ _ _ => False) := fun _ _ _ _ _ _ _ c => by
  obtain ⟨_, _, _, _, _, _, _, _, _, _, _, _, z⟩ := c
  exact z.elim
section
variable {K : PySem.W.Frag} {σ : L2.St} {H : Hp} {te ta tb : TE} {tr : TA} {W : V → Hp → Prop} {Q : List V → Hp → Prop} {Qv : VK} {p : Addr}
theorem tcons_go (h : EvW te σ H W) (k : ∀ v H1, Ex H H1 → W v H1 → tr σ H1 fun xs H2 => Q (v :: xs) H2) : tCons te tr σ H Q := h H (Ex.refl H) _ k
theorem tcons_v {v : V} (h : Ev te σ H v) (k : ∀ H1, Ex H H1 → tr σ H1 fun xs H2 => Q (v :: xs) H2) : tCons te tr σ H Q := h H (Ex.refl H) _ k
theorem tcons_L {xs : List V} (h : EvL te σ H xs) (k : ∀ p H1, H p = none → Ex H H1 → H1 p = some (.lst xs) → tr σ H1 fun ys H2 => Q (.ref p :: ys) H2) : tCons te tr σ H Q := h H (Ex.refl H) _ k
theorem evw_lst {xs : List V} (h : EvL te σ H xs) : EvW te σ H (fun v H1 => ∃ p, v = .ref p ∧ H1 p = some (.lst xs)) := fun H1 e Q q => h H1 e _ fun p H2 _ e2 hp => q _ H2 e2 ⟨p, rfl, hp⟩
theorem ev_cntB {bs : List Bool} {k : Bool} (ha : Ev ta σ H (.ref p)) (hx : SqL K H p (bs.map V.bl)) (hb : Ev tb σ H (.bl k)) : Ev (tBM K "list" (rCntB K) ta (tCons tb tNil)) σ H (.int (bs.count k : Nat)) := fun H1 e Q q =>
  ha H1 e _ fun H2 e2 => ⟨.inl ⟨rfl, _, ex_l (e.trans e2) hx⟩, hb H2 (e.trans e2) _ fun H3 e3 => ⟨p, bs, k, rfl, rfl, ex_l ((e.trans e2).trans e3) hx, q H3 (e2.trans e3)⟩⟩
theorem ev_idx {ys : List V} {y z : V} {j : Nat} (ha : Ev ta σ H (.ref p)) (hx : SqL K H p ys) (hb : Ev tb σ H y) (f1 : flatV y = true) (f2 : ys.all flatV = true) (hz : ys[j]? = some z) (he : eqV z y = true) (hn : ∀ (m : Nat) (z' : V), m < j → ys[m]? = some z' → eqV z' y = false) :
    Ev (tBM K "list" (rIndex K) ta (tCons tb tNil)) σ H (.int (j : Nat)) := fun H1 e Q q =>
  ha H1 e _ fun H2 e2 => ⟨.inl ⟨rfl, _, ex_l (e.trans e2) hx⟩, hb H2 (e.trans e2) _ fun H3 e3 => ⟨p, ys, y, j, z, rfl, rfl, ex_l ((e.trans e2).trans e3) hx, f1, f2, hz, he, hn, q H3 (e2.trans e3)⟩⟩
/-- xs + ys -/
theorem el_cat {xs ys : List V} {l b : Addr} (ha : Ev ta σ H (.ref l)) (hb : Ev tb σ H (.ref b)) (hx : H l = some (.lst xs)) (hy : H b = some (.lst ys)) (hn : xs.length + ys.length ≤ 100000) : EvL (tOp rCat ta tb) σ H (xs ++ ys) := fun H1 e Q q =>
  ha H1 e _ fun H2 e2 => hb H2 (e.trans e2) _ fun H3 e3 => ⟨l, b, xs, ys, rfl, rfl, ((e.trans e2).trans e3) _ _ hx, ((e.trans e2).trans e3) _ _ hy, sz_of hn, fun p hp => q p _ (fresh_back (e2.trans e3) hp) ((e2.trans e3).trans (Ex.new hp)) upd_same⟩
theorem el_catN {xs ys : List V} {l : Addr} (ha : Ev ta σ H (.ref l)) (hb : EvL tb σ H ys) (hx : H l = some (.lst xs)) (hn : xs.length + ys.length ≤ 100000) : EvL (tOp rCat ta tb) σ H (xs ++ ys) := fun H1 e Q q =>
  ha H1 e _ fun H2 e2 => hb H2 (e.trans e2) _ fun b H3 nb e3 hb3 => ⟨l, b, xs, ys, rfl, rfl, ((e.trans e2).trans e3) _ _ hx, hb3, sz_of hn, fun p hp => q p _ (fresh_back (e2.trans e3) hp) ((e2.trans e3).trans (Ex.new hp)) upd_same⟩
theorem el_catNN {xs ys : List V} (ha : EvL ta σ H xs) (hb : EvL tb σ H ys) (hn : xs.length + ys.length ≤ 100000) : EvL (tOp rCat ta tb) σ H (xs ++ ys) := fun H1 e Q q =>
  ha H1 e _ fun l H2 nl e2 hl => hb H2 (e.trans e2) _ fun b H3 nb e3 hb3 => ⟨l, b, xs, ys, rfl, rfl, e3 _ _ hl, hb3, sz_of hn, fun p hp => q p _ (fresh_back (e2.trans e3) hp) ((e2.trans e3).trans (Ex.new hp)) upd_same⟩
end
end Tk
namespace Tk
open PySem PySem.Spec PyProof.Rows L2 Evl
theorem lst_go {ta : TA} {i : Nat} {u : TS} {D : Ends} {σ : L2.St} {H : Hp} (h : ta σ H fun xs H1 => xs.length ≤ sizeLine ∧ ∀ p, H1 p = none → u D (σ.set i (some (.ref p))) (upd H1 p (.lst xs))) : tSeq (tAsg (tLst ta) (gName i)) u D σ H := h
theorem rt_seqL {te : TE} {u : TS} {σ : L2.St} {H : Hp} {xs : List V} {v : V} {i : Nat} (h : EvL te σ H xs) (k : ∀ p H1, Ex H H1 → H1 p = some (.lst xs) → Rt u (σ.set i (some (.ref p))) H1 v) : Rt (tSeq (tAsg te (gName i)) u) σ H v := fun H1 e D q =>
  h H1 e _ fun p H2 np e2 hp => k p H2 (e.trans e2) hp H2 (Ex.refl H2) D fun H3 e3 => q H3 (e2.trans e3)
end Tk
namespace Tk
open PySem PySem.Spec PyProof.Rows L2 Evl
theorem EvW.mono {te : TE} {σ : L2.St} {H H' : Hp} {W : V → Hp → Prop} (e : Ex H H') (h : EvW te σ H W) : EvW te σ H' W := fun H1 a Q q => h H1 (e.trans a) Q q
theorem EvW.imp {te : TE} {σ : L2.St} {H : Hp} {W W' : V → Hp → Prop} (h : EvW te σ H W) (k : ∀ v H1, Ex H H1 → W v H1 → W' v H1) : EvW te σ H W' := fun H1 e Q q => h H1 e Q fun v H2 e2 w => q v H2 e2 (k v H2 (e.trans e2) w)
theorem EvW.go {te : TE} {σ : L2.St} {H : Hp} {W : V → Hp → Prop} {i : Nat} {u : TS} {D : Ends} (h : EvW te σ H W) (k : ∀ v H1, Ex H H1 → W v H1 → u D (σ.set i (some v)) H1) : tSeq (tAsg te (gName i)) u D σ H := h H (Ex.refl H) _ k
theorem q_mid {t u : TS} {D : Ends} {σ : L2.St} {H : Hp} (M : L2.St → Hp → Prop) (k : ∀ σ' H', M σ' H' → u D σ' H') (h : (∀ σ' H', M σ' H' → u D σ' H') → t { D with nx := u D } σ H) : tSeq t u D σ H := h k
theorem lstE_go {ta : TA} {σ : L2.St} {H : Hp} {Q : VK} (h : ta σ H fun xs H1 => xs.length ≤ sizeLine ∧ ∀ p, H1 p = none → Q (.ref p) (upd H1 p (.lst xs))) : tLst ta σ H Q := h
theorem el_rep {σ : L2.St} {H : Hp} {ta tb : TE} {xs : List V} {k : Int} (ha : EvL ta σ H xs) (hb : ∀ H1, Ex H H1 → Ev tb σ H1 (.int k)) (hk : 0 ≤ k ∧ k < 1000) (hn : xs.length * k.toNat ≤ 100000) : EvL (tOp rRep ta tb) σ H (List.replicate k.toNat xs).flatten := fun H1 e Q q =>
  ha H1 e _ fun l H2 nl e2 hl => hb H2 (e.trans e2) H2 (Ex.refl _) _ fun H3 e3 => ⟨l, k, xs, rfl, rfl, e3 _ _ hl, by omega, by omega, sz_of hn, fun p hp => q p _ (fresh_back (e2.trans e3) hp) ((e2.trans e3).trans (Ex.new hp)) upd_same⟩
theorem yesT8 {σ : L2.St} {H : Hp} {A B : Hp → Prop} (h : A H) : tYes σ H fun b H3 => if b = true then A H3 else B H3 := by
  show if true = true then A H else B H
  rw [if_pos rfl]
  exact h
/-- [e for x in ..], its items by what holds of them: of no list -/
theorem evw_lcP {wi : TI} {te : TE} {σ : L2.St} {H : Hp} {items : Nat → V} {n j : Nat} {vs : List Nat} (P : Nat → V → Hp → Prop) (mono : ∀ i v H1 H2, Ex H1 H2 → P i v H1 → P i v H2) (nolst : ∀ i v H1 D xs ys, H1 D = some (.lst xs) → P i v H1 → P i v (upd H1 D (.lst ys)))
    (h : EvI wi σ H items n) (hn : n ≤ 40000) (hw : ∀ x, wipe ((wipe σ vs).set j (some x)) vs = wipe σ vs) (he : ∀ i H1, Ex H H1 → i < n → EvW te ((wipe σ vs).set j (some (items i))) H1 (P i)) :
    EvW (tLc wi (gName j) tYes te vs) σ H (fun v H2 => ∃ l xs, v = .ref l ∧ H2 l = some (.lst xs) ∧ xs.length = n ∧ ∀ i x, xs[i]? = some x → P i x H2) := fun H0 e0 Q q =>
  h H0 e0 _ fun J H1 e1 G => fun D nD => by
    refine ⟨fun i m H' => m = n - i ∧ i ≤ n ∧ Ex H1 H' ∧ ∃ xs : List V, H' D = some (.lst xs) ∧ xs.length = i ∧ ∀ k x, xs[k]? = some x → P k x H', ⟨n, by simp, Nat.zero_le _, Ex.new nD, [], upd_same, rfl, fun k x hx => by simp at hx⟩, ?_⟩
    rintro i m H' ⟨rfl, hi, e, xs, hD, hl, hP⟩
    by_cases hlt : i < n
    · refine .inr ⟨G.go i H' e hlt, fun H'' => i + 1 ≤ n ∧ Ex H1 H'' ∧ ∃ xs : List V, H'' D = some (.lst xs) ∧ xs.length = i + 1 ∧ ∀ k x, xs[k]? = some x → P k x H'', fun H'' p => ⟨n - (i + 1), by omega, rfl, p⟩, fun x H2 y => ?_⟩
      obtain ⟨rfl, rfl⟩ := G.yld i x H' H2 e hlt y
      refine ⟨hw _, ?_⟩
      refine yesT8 ?_
      refine he i H2 ((e0.trans e1).trans e) hlt H2 (Ex.refl _) _ fun v H3 e3 p => ?_
      have hD3 := e3 _ _ hD
      refine ⟨xs, hD3, sz_lt (by omega), hlt, (e.trans e3).mut nD, xs ++ [v], upd_same, by rw [List.length_append, hl]; rfl, fun k x hx => ?_⟩
      by_cases hk : k < xs.length
      · rw [List.getElem?_append_left hk] at hx
        exact nolst k x H3 D xs _ hD3 (mono k x _ _ e3 (hP k x hx))
      · rw [List.getElem?_append_right (by omega)] at hx
        have hk0 : k - xs.length = 0 := by
          have := (List.getElem?_eq_some_iff.mp hx).1
          simp at this
          omega
        rw [hk0] at hx
        obtain rfl : v = x := by simpa using hx
        obtain rfl : k = i := by omega
        exact nolst k v H3 D xs _ hD3 p
    · obtain rfl : i = n := by omega
      exact .inl ⟨G.stop _ e, q _ _ (e1.trans e) ⟨D, xs, rfl, hD, hl, hP⟩⟩
theorem paired_of {α β : Type} {R : α → β → Prop} : ∀ {xs : List α} {ys : List β}, xs.length = ys.length → (∀ (i : Nat) x y, xs[i]? = some x → ys[i]? = some y → R x y) → Paired R xs ys
  | [], [], _, _ => .nil
  | x :: xs, y :: ys, hl, h => .cons (h 0 x y rfl rfl) (paired_of (Nat.succ.inj hl) fun i a b ha hb => h (i + 1) a b (by rw [List.getElem?_cons_succ]; exact ha) (by rw [List.getElem?_cons_succ]; exact hb))
end Tk
namespace Tk
open PySem PySem.Spec PyProof.Rows L2 Evl
/-! methods and classes that raise -/
structure MakX (P : Program) (w : World) (K : PySem.W.Frag) (mg : Str → Option Value) (base : Heap) (k : Nat) (x : Str) (C : Addr) (sp : Sp) (ps : List Str) : Prop where
  ex : ∃ (f : Addr) (fd : FuncData), Mk K C f ∧ FnOk P w K mg base (L2.CX P w) k f fd ps sp ∧ mg x = some (.ref C) ∧ Binds K fd ps []
section
variable {P : Program} {w : World} {K : PySem.W.Frag} {mg : Str → Option Value} {base : Heap}
theorem makX {x qual : Str} {C : Addr} {st : Stmt} {f : Addr} {fd : FuncData} {N ps : List Str} {k : Nat} {sp : Sp} (M : Mk K C f) (hm : mg x = some (.ref C)) (F : C8.Fun K "__init__" qual st f fd) (b : Binds K fd ps []) (S : FnScope N ps (C8.fnScope st)) (len : ∀ vs H Q E, sp vs H Q E → vs.length = ps.length)
    (hbody : ∀ (cdv : Value) (A : Around) (outer : List Env) (s : Shared) (H : Hp) (vs : List V) (Q : VK) (E : XK), Room k (A.deeper (envOfC qual (C8.fnScope st) s.heap.objs.size f cdv)) → sp vs H Q E →
      ∃ t, PSs (cxOf (L2.CX P w) P w K mg base N qual (C8.fnScope st) f cdv A outer s H E) (C8.fnBody st) t ∧ t { nx := fun _ H' => Q .non H', rt := Q } (start N vs) H) : MakX P w K mg base (k + 1) x C sp ps :=
  ⟨f, fd, M, fnX7 F S len hbody, hm, b⟩
end
def tMethT (C : Addr) (m : Str) (sp : Sp) (E : L2.St → XK) (ta : TE) (t : TA) : TE := fun σ H Q => ta σ H fun x H1 => ∃ a dx fs, x = .ref a ∧ H1 a = some (.ins C dx fs) ∧ fs.lookup m = none ∧ t σ H1 fun vs H2 => sp (x :: vs) H2 Q (E σ)
section
variable {X : Cx} {k j : Nat} {sp : Sp} {E : XK} {W : WX} {C : Addr} {x m : Str} {p pos apos : Pos} {e o : Expr} {es : List Expr} {ta : TE} {t : TA} {ps : List Str}
theorem pe_mX {pl : Sem Bool} (c : MetX X.prog X.w X.K X.mg X.base k C m sp) (hx : Passes (L2.CX X.prog X.w) X E) (hr : Room j X.A) (hk : k ≤ j) (he : PE X o ta) (ha : PA X (e :: es) t)
    (hst : starEach (e :: es) X.env = (false, eval e X.env) :: starEach es X.env := by rfl) (hpl : (backTo pos (starEach es X.env)).any (·.1) = false := by rfl)
    (ht : eval (.Call (.Attribute o m apos) (e :: es) [] pos) X.env = (do
      let ov ← eval o X.env
      standAt apos.atName
      let (f, first) ← holding [ov] (getMethod ov m pl)
      callWith pos f first (backTo pos (starEach (e :: es) X.env)) (backToKw pos (keywordEach [] X.env))) := by rfl) :
    PE X (.Call (.Attribute o m apos) (e :: es) [] pos) (tMeth C m sp [] E ta t) := by
  obtain ⟨f, fd, ps, hc, hm, F, b⟩ := c.ex
  exact pe_meth (pl := pl) he hc hm F (hr.mono hk) b .nil hx ha hst hpl ht
/-- in a try -/
theorem pe_mT {pl : Sem Bool} (c : MetX X.prog X.w X.K X.mg X.base k C m sp) (tk : Takes X W) (hr : Room j X.A) (hk : k ≤ j) (he : PE X o ta) (ha : PA X (e :: es) t)
    (hst : starEach (e :: es) X.env = (false, eval e X.env) :: starEach es X.env := by rfl) (hpl : (backTo pos (starEach es X.env)).any (·.1) = false := by rfl)
    (ht : eval (.Call (.Attribute o m apos) (e :: es) [] pos) X.env = (do
      let ov ← eval o X.env
      standAt apos.atName
      let (f, first) ← holding [ov] (getMethod ov m pl)
      callWith pos f first (backTo pos (starEach (e :: es) X.env)) (backToKw pos (keywordEach [] X.env))) := by rfl) :
    PE X (.Call (.Attribute o m apos) (e :: es) [] pos) (tMethT C m sp (WE W) ta t) := by
  obtain ⟨f, fd, ps, hc, hm, F, b⟩ := c.ex
  refine ⟨fun pins s σ H Q I h => ?_⟩
  refine PySem.W.methodCall_KW (pl := pl) (thn (he.run pins s σ H _ I h) fun u s1 ⟨x, H1, I1, rx, a, dx, fs, ex, ea, l, q⟩ => ?_) ht
  subst ex
  obtain rfl : u = Value.ref a := rx
  refine getmeth_ok I1 ea hc hm l ?_
  refine PySem.W.callWith_K (first := [.ref a]) (h₀ := X.base) I.ok.mod.kin hm.kp (thn (ha.run pos pins s1 σ H1 _ I1 q) fun us s2 ⟨vs, H2, I2, r, q2⟩ => ⟨I2.kIn, ?_⟩) hst hpl
  exact run_fnS (us := .ref a :: us) (vs := .ref a :: vs) F (hr.mono hk) b (passAt tk σ) I2 (.cons rfl r) q2
theorem pe_mkX9 (c : MakX X.prog X.w X.K X.mg X.base k x C sp ps) (hx : Passes (L2.CX X.prog X.w) X E) (hr : Room j X.A) (hk : k + 1 ≤ j) (hg : Gl X x) (ha : PA X (e :: es) t)
    (hdb : (x == ("__debug__" : Str)) = false := by decide) (he : starEach (e :: es) X.env = (false, eval e X.env) :: starEach es X.env := by rfl) (hpl : (backTo pos (starEach es X.env)).any (·.1) = false := by rfl) :
    PE X (.Call (.Name x p) (e :: es) [] pos) (tMake C sp [] E t) := by
  obtain ⟨f, fd, M, F, hm, b⟩ := c.ex
  exact pe_make M F (hr.mono hk) hg hm b .nil hx ha hdb he hpl
theorem pe_mkT9 (c : MakX X.prog X.w X.K X.mg X.base k x C sp ps) (tk : Takes X W) (hr : Room j X.A) (hk : k + 1 ≤ j) (hg : Gl X x) (ha : PA X (e :: es) t)
    (hdb : (x == ("__debug__" : Str)) = false := by decide) (he : starEach (e :: es) X.env = (false, eval e X.env) :: starEach es X.env := by rfl) (hpl : (backTo pos (starEach es X.env)).any (·.1) = false := by rfl) :
    PE X (.Call (.Name x p) (e :: es) [] pos) (tMakeS C sp (WE W) t) := by
  obtain ⟨f, fd, M, F, hm, b⟩ := c.ex
  exact pe_makeS M F (hr.mono hk) hg hm b (fun σ => passAt tk σ) ha hdb he hpl
end
end Tk
namespace Tk
open PySem PySem.Spec PyProof.Rows L2 Evl
/-! loops whose items are known by what holds of them; the walk may lay new things -/
structure GenE (J : It) (Y : Nat → V → Hp → Prop) (n : Nat) (H : Hp) : Prop where
  go : ∀ i H1, Ex H H1 → i < n → J.go i H1
  yld : ∀ i x H1 H2, Ex H H1 → i < n → J.yld i H1 x H2 → Ex H1 H2 ∧ Y i x H2
  stop : ∀ H1, Ex H H1 → J.stop n H1
def EvG (wi : TI) (σ : L2.St) (H : Hp) (Y : Nat → V → Hp → Prop) (n : Nat) : Prop := ∀ H1, Ex H H1 → ∀ R : It → Hp → Prop, (∀ J H2, Ex H1 H2 → GenE J Y n H2 → R J H2) → wi σ H1 R
section
variable {K : PySem.W.Frag} {σ s : L2.St} {H : Hp} {wi : TI} {Y : Nat → V → Hp → Prop} {n : Nat} {g : TG} {u tz : TS} {W : V → Hp → Prop} {P : L2.St → Prop}
theorem rtwp_forG (Iv : Nat → L2.St → Prop) (i0 : Iv 0 σ) (h : EvG wi σ H Y n) (hs : ∀ i s x H', i < n → Iv i s → Ex H H' → Y i x H' → GNxP g u x s H' (Iv (i + 1)) ∨ GRtW g u x s H' W) (rest : ∀ s, Iv n s → RtW tz s H W) : RtW (tSeq (tFor wi g u) tz) σ H W := fun H1 e D q =>
  h H1 e _ fun J H2 e2 G => by
    refine ⟨fun i m s H3 => m = n - i ∧ i ≤ n ∧ Iv i s ∧ Ex H2 H3, ⟨n, by simp, Nat.zero_le _, i0, Ex.refl _⟩, ?_⟩
    rintro i m s H3 ⟨rfl, hi, hv, e3⟩
    by_cases hlt : i < n
    · refine .inr ⟨G.go i H3 e3 hlt, fun s' H' => Iv (i + 1) s' ∧ Ex H2 H', fun s' H' p => ⟨n - (i + 1), by omega, rfl, hlt, p.1, p.2⟩, fun x H' y => ?_⟩
      obtain ⟨ey, yy⟩ := G.yld i x H3 H' e3 hlt y
      have e4 := ((e.trans e2).trans e3).trans ey
      rcases hs i s x H' hlt hv e4 yy with z | z
      · exact z _ (Ex.refl _) _ fun s' H4 e5 p => ⟨p, (e3.trans ey).trans e5⟩
      · exact z _ (Ex.refl _) _ fun v H4 e5 w => q v H4 (((e2.trans e3).trans ey).trans e5) w
    · obtain rfl : i = n := by omega
      exact .inl ⟨G.stop _ e3, rest s hv H3 ((e.trans e2).trans e3) D fun v H4 e4 w => q v H4 ((e2.trans e3).trans e4) w⟩
theorem rtwp_forG0 (Iv : Nat → L2.St → Prop) (i0 : Iv 0 σ) (h : EvG wi σ H Y n) (hs : ∀ i s x H', i < n → Iv i s → Ex H H' → Y i x H' → GNxP g u x s H' (Iv (i + 1)) ∨ GRtW g u x s H' W) (rest : ∀ s, Iv n s → False) : RtW (tFor wi g u) σ H W := fun H1 e D q =>
  h H1 e _ fun J H2 e2 G => by
    refine ⟨fun i m s H3 => m = n - i ∧ i ≤ n ∧ Iv i s ∧ Ex H2 H3, ⟨n, by simp, Nat.zero_le _, i0, Ex.refl _⟩, ?_⟩
    rintro i m s H3 ⟨rfl, hi, hv, e3⟩
    by_cases hlt : i < n
    · refine .inr ⟨G.go i H3 e3 hlt, fun s' H' => Iv (i + 1) s' ∧ Ex H2 H', fun s' H' p => ⟨n - (i + 1), by omega, rfl, hlt, p.1, p.2⟩, fun x H' y => ?_⟩
      obtain ⟨ey, yy⟩ := G.yld i x H3 H' e3 hlt y
      have e4 := ((e.trans e2).trans e3).trans ey
      rcases hs i s x H' hlt hv e4 yy with z | z
      · exact z _ (Ex.refl _) _ fun s' H4 e5 p => ⟨p, (e3.trans ey).trans e5⟩
      · exact z _ (Ex.refl _) _ fun v H4 e5 w => q v H4 (((e2.trans e3).trans ey).trans e5) w
    · obtain rfl : i = n := by omega
      exact (rest s hv).elim
theorem nxp_forG (Iv : Nat → L2.St → Prop) (i0 : Iv 0 σ) (h : EvG wi σ H Y n) (hs : ∀ i s x H', i < n → Iv i s → Ex H H' → Y i x H' → GNxP g u x s H' (Iv (i + 1))) : NxP (tFor wi g u) σ H (Iv n) := fun H1 e D q =>
  h H1 e _ fun J H2 e2 G => by
    refine ⟨fun i m s H3 => m = n - i ∧ i ≤ n ∧ Iv i s ∧ Ex H2 H3, ⟨n, by simp, Nat.zero_le _, i0, Ex.refl _⟩, ?_⟩
    rintro i m s H3 ⟨rfl, hi, hv, e3⟩
    by_cases hlt : i < n
    · refine .inr ⟨G.go i H3 e3 hlt, fun s' H' => Iv (i + 1) s' ∧ Ex H2 H', fun s' H' p => ⟨n - (i + 1), by omega, rfl, hlt, p.1, p.2⟩, fun x H' y => ?_⟩
      obtain ⟨ey, yy⟩ := G.yld i x H3 H' e3 hlt y
      exact hs i s x H' hlt hv (((e.trans e2).trans e3).trans ey) yy _ (Ex.refl _) _ fun s' H4 e5 p => ⟨p, (e3.trans ey).trans e5⟩
    · obtain rfl : i = n := by omega
      exact .inl ⟨G.stop _ e3, q _ _ (e2.trans e3) hv⟩
theorem gnxp_tup2 {i j : Nat} {a : Addr} {x y : V} (h : SqT K H a [x, y]) (k : NxP u ((s.set i (some x)).set j (some y)) H P) : GNxP (gTup K 2 (gCons (gName i) (gCons (gName j) gNil))) u (.ref a) s H P := fun H1 e D q =>
  ⟨a, [x, y], rfl, ex_t e h, rfl, x, [y], rfl, y, [], rfl, rfl, k H1 e D q⟩
theorem grtw_tup2 {i j : Nat} {a : Addr} {x y : V} (h : SqT K H a [x, y]) (k : RtW u ((s.set i (some x)).set j (some y)) H W) : GRtW (gTup K 2 (gCons (gName i) (gCons (gName j) gNil))) u (.ref a) s H W := fun H1 e D q =>
  ⟨a, [x, y], rfl, ex_t e h, rfl, x, [y], rfl, y, [], rfl, rfl, k H1 e D q⟩
/-- enumerate(l) -/
theorem eg_enum {ta : TE} {a : Addr} {xs : List V} (h : Ev ta σ H (.ref a)) (hx : SqL K H a xs) : EvG (iEnum K (tCons ta tNil)) σ H (fun i v H2 => ∃ T x, v = .ref T ∧ xs[i]? = some x ∧ SqT K H2 T [.int (i : Nat), x]) xs.length := fun H1 e R q =>
  h H1 e _ fun H2 e2 => by
    have hx2 := ex_l (e.trans e2) hx
    refine ⟨a, xs, rfl, hx2, q _ H2 e2 ⟨fun i H3 e3 hi => ⟨xs, xs[i], ex_l e3 hx2, by simp [hi]⟩, fun i x H3 H4 e3 hi y => ?_, fun H3 e3 => ⟨xs, ex_l e3 hx2, Nat.le_refl _⟩⟩⟩
    obtain ⟨T, z, rfl, nT, rfl, hz⟩ := y
    exact ⟨Ex.new nT, T, z, rfl, hz xs (ex_l e3 hx2), st_of upd_same⟩
/-- for .. in ((x0, y0), (x1, y1)): a display -/
theorem eg_pairs {t0 t1 : TE} {x0 y0 x1 y1 : V} (h0 : EvU t0 σ H [x0, y0]) (h1 : EvU t1 σ H [x1, y1]) : EvG (iTup K (tTup (tCons t0 (tCons t1 tNil)))) σ H (fun i v H2 => ∃ T, v = .ref T ∧ SqT K H2 T [if i = 0 then x0 else x1, if i = 0 then y0 else y1]) 2 := fun H1 e R q =>
  h0 H1 e _ fun p0 H2 _ e2 hp0 => h1 H2 (e.trans e2) _ fun p1 H3 _ e3 hp1 => by
    refine ⟨by show 2 ≤ sizeLine; decide, fun p np => ?_⟩
    have e4 := Ex.new (o := HO.tup [.ref p0, .ref p1]) np
    have hp : SqT K (upd H3 p (.tup [.ref p0, .ref p1])) p [.ref p0, .ref p1] := st_of upd_same
    have g0 := e4 _ _ (e3 _ _ hp0)
    have g1 := e4 _ _ hp1
    refine ⟨p, rfl, ⟨_, hp⟩, q _ _ ((e2.trans e3).trans e4) ⟨fun i H5 e5 hi => ⟨_, [V.ref p0, V.ref p1][i]'hi, ex_t e5 hp, by rw [List.getElem?_eq_getElem hi]⟩, fun i x H5 H6 e5 hi y => ?_, fun H5 e5 => ⟨_, ex_t e5 hp, Nat.le_refl _⟩⟩⟩
    obtain ⟨rfl, y2⟩ := y
    have z := y2 _ (ex_t e5 hp)
    refine ⟨Ex.refl _, ?_⟩
    cases i with
    | zero =>
      obtain rfl : V.ref p0 = x := by simpa using z
      exact ⟨p0, rfl, st_of (e5 _ _ g0)⟩
    | succ i =>
      cases i with
      | zero =>
        obtain rfl : V.ref p1 = x := by simpa using z
        exact ⟨p1, rfl, st_of (e5 _ _ g1)⟩
      | succ i => omega
/-- a text, sign by sign -/
theorem ei_s {te : TE} {z : Str} (h : Ev te σ H (.str z)) : EvI (iStr te) σ H (fun i => .str ⟨#[z.cps.getD i 0]⟩) z.cps.size := fun H1 e R q =>
  h H1 e _ fun H2 e2 => ⟨z, rfl, q _ H2 e2 ⟨fun _ _ _ hi => hi, fun i x H3 H4 _ hi y => by
    obtain ⟨y1, c, y2, y3⟩ := y
    refine ⟨y1, ?_⟩
    rw [y3, Array.getD_eq_getD_getElem?, y2]
    rfl, fun _ _ => Nat.le_refl _⟩⟩
/-- f(xs + ys, ..) -/
theorem ev_callL {R : List V → Hp → V → Prop} {te : TE} {tr : TA} {xs vs : List V} {v : V} {E : XK} (h : EvL te σ H xs) (ha : EvA tr σ H vs) (hR : ∀ p H1, Ex H H1 → H1 p = some (.lst xs) → R (.ref p :: vs) H1 v) : Ev (tCall (spF R) [] E (tCons te tr)) σ H v := fun H1 e Q q =>
  h H1 e _ fun p H2 np e2 hp => ha H2 (e.trans e2) _ fun H3 e3 => by
    show spF R ((V.ref p :: vs) ++ []) H3 Q E
    rw [List.append_nil]
    exact ⟨v, fun H4 e4 => hR p H4 (((e.trans e2).trans e3).trans e4) ((e3.trans e4) _ _ hp), fun H4 e4 => q H4 ((e2.trans e3).trans e4)⟩
theorem ev_din {ty td : TE} {k : Key} {d : Addr} {kvs : List (Key × V)} (ha : Ev ty σ H (kV k)) (hb : Ev td σ H (.ref d)) (hd : H d = some (.dK kvs)) : Ev (tDIn ty td) σ H (.bl (valV kvs k).isSome) := fun H1 e Q q =>
  ha H1 e _ fun H2 e2 => hb H2 (e.trans e2) _ fun H3 e3 => ⟨d, _, rfl, DGet.k (((e.trans e2).trans e3) _ _ hd), q H3 (e2.trans e3)⟩
theorem ev_dget {ty td : TE} {k : Key} {v : V} {d : Addr} {kvs : List (Key × V)} (ha : Ev td σ H (.ref d)) (hb : Ev ty σ H (kV k)) (hd : H d = some (.dK kvs)) (hv : valV kvs k = some v) : Ev (tDGet td ty) σ H v := fun H1 e Q q =>
  ha H1 e _ fun H2 e2 => hb H2 (e.trans e2) _ fun H3 e3 => ⟨d, v, rfl, hv ▸ DGet.k (((e.trans e2).trans e3) _ _ hd), q H3 (e2.trans e3)⟩
theorem ev_allB {te : TE} {bs : List Bool} (h : EvW te σ H fun v H1 => ∃ l, v = .ref l ∧ H1 l = some (.lst (bs.map V.bl))) : Ev (tCB (rAll K) (tCons te tNil)) σ H (.bl (bs.all id)) := fun H1 e Q q =>
  h H1 e _ fun v H2 e2 ⟨l, ev, hl⟩ => ⟨l, bs, by rw [ev], sq_of hl, q H2 e2⟩
theorem ev_lenS {te : TE} {z : Str} (h : Ev te σ H (.str z)) (hz : z.length ≤ 100000) : Ev (tCB (fun xs H Q => ∃ z : Str, xs = [.str z] ∧ z.length ≤ sizeLine ∧ Q (.int z.length) H) (tCons te tNil)) σ H (.int (z.length : Int)) := fun H1 e Q q =>
  h H1 e _ fun H2 e2 => ⟨z, rfl, sz_of hz, q H2 e2⟩
end
end Tk
namespace Evl
open PySem PySem.Spec PyProof.Rows L2
section
variable {X : Cx}
/-- xs.remove(x), over data -/
def rRemD (K : PySem.W.Frag) : V → List V → Hp → VK → Prop := fun x xs H Q => ∃ (l : Addr) (vs : List V) (y : V) (d : PyData) (ds : List PyData) (j : Nat) (z : PyData), x = .ref l ∧ xs = [y] ∧ H l = some (.lst vs) ∧ DpAll K H vs ds ∧ Dp K H y d ∧
  SeqAt.shaped (.list ds) = true ∧ SeqAt.shaped d = true ∧ ds[j]? = some z ∧ PyData.eqv z d = true ∧ (∀ (m : Nat) (z' : PyData), m < j → ds[m]? = some z' → PyData.eqv z' d = false) ∧ Q .non (upd H l (.lst (vs.eraseIdx j)))
theorem mt_removeD (hu : X.A.units + 65 < cLine) : MtM X "list.remove" (rRemD X.K) := by
  intro pins s σ H x xs v us Q I rx rxs h
  obtain ⟨l, vs, y, d, ds, j, z, rfl, rfl, hH, ha, hy, sl, sd, hz, hzj, hno, q⟩ := h
  cases rx
  cases rxs with
  | cons ry rt =>
    rename_i uy ut
    cases rt
    obtain ⟨bs, r1⟩ := Dp.reads I d y uy hy ry
    have hxs : PyData.canLayAll0 ds = true := SeqAt.canLay_of_shaped sl
    have hroom : X.A.units + 1 + min (PyData.depthAll ds) d.depth < cLine := room_in_shaped sd hu
    obtain ⟨zl, its, n, rv, hlen, ho⟩ := I.lstM hH
    obtain ⟨as, h4⟩ := Dp.readsAll I ds _ its ha rv
    have hn : its.length = ds.length := SeqAt.ReadsAll.length ds its as h4
    have hmap : its.map (SeqAt.readOf s.heap) = ds := SeqAt.readsAll_map ds its as hxs h4
    have hvl := rv.length
    have hsl := sizeLine_eq
    obtain ⟨hjd, _⟩ := List.getElem?_eq_some_iff.mp hz
    have hjl : j < its.length := by omega
    have hj : j < its.toArray.size := by simpa using hjl
    have at_ : ∀ (m : Nat) (hm : m < its.toArray.size) (z' : PyData), ds[m]? = some z' → SeqAt.readOf s.heap its.toArray[m] = z' := by
      intro m hm z' hz'
      have hml : m < its.length := by simpa using hm
      rw [← hmap, List.getElem?_map, List.getElem?_eq_getElem hml] at hz'
      have e1 : SeqAt.readOf s.heap its[m] = z' := Option.some.inj (show some (SeqAt.readOf s.heap its[m]) = some z' from hz')
      simpa using e1
    refine call_meets PySem.F.slot_list_remove ⟨_, ho, rfl⟩ PySem.F.entry_list_remove (PySem.F.args_list_remove_2 _ _)
      (SeqAt.list_removeAt l its.toArray n none #[] uy (fun u => PyData.eqv (SeqAt.readOf s.heap u) d) j hj ?_ ?_ (by rw [List.size_toArray]; omega)) ⟨ho, SeqAt.items_eqAt (vs := its.toArray) (show ReadsAll s.heap its.toArray.toList ds as from h4) r1 hxs (SeqAt.canLay_of_shaped sd) hroom, ?_⟩
    · show PyData.eqv (SeqAt.readOf s.heap its.toArray[j]) d = true
      rw [at_ j hj z hz]
      exact hzj
    · intro m hm hmj
      have hmd : m < ds.length := by omega
      have hz' : ds[m]? = some ds[m] := List.getElem?_eq_getElem hmd
      show PyData.eqv (SeqAt.readOf s.heap its.toArray[m]) d = false
      rw [at_ m hm _ hz']
      exact hno m _ hmj hz'
    · have rr := rv.eraseIdx j
      refine ⟨.non, _, I.lset (its' := its.eraseIdx j) (t' := s.toks) hH ho ?_ rr ?_, rfl, q⟩
      · show its.toArray.eraseIdxIfInBounds j = (its.eraseIdx j).toArray
        rw [List.eraseIdxIfInBounds_toArray]
      · have := List.length_eraseIdx_le vs j
        omega
end
end Evl
namespace L2
open PySem PySem.Spec PyProof.Rows
theorem Room.units65 {k : Nat} {A : Around} (r : Room k A) : A.units + 65 < cLine := by have := r.un; omega
end L2
namespace Tk
section
open PySem PySem.Builtin PySem.Builtin.Str PySem.StrLaws TL
/-! lines of a joined text -/
theorem ls_quiet (s : Str) : ∀ (m cur : Nat) (st : LsSt), (∀ i, cur ≤ i → i < cur + m → PySem.Unicode.isLineBreak (s.cps.getD i 0) = false) → Id.run (forIn (m := Id) (List.range' cur m) st (lsBody s)) = st
  | 0, _, _, _ => rfl
  | m + 1, cur, (arr, sta), h => by
    rw [List.range'_succ, List.forIn_cons]
    unfold lsBody
    simp only [h cur (Nat.le_refl _) (by omega), Bool.and_false, Bool.false_eq_true, if_false]
    exact ls_quiet s m (cur + 1) (arr, sta) fun i h1 h2 => h i (by omega) (by omega)
theorem ls_app (s : Str) : ∀ (xs ys : List Nat) (st : LsSt), Id.run (forIn (m := Id) (xs ++ ys) st (lsBody s)) = Id.run (forIn (m := Id) ys (Id.run (forIn (m := Id) xs st (lsBody s))) (lsBody s))
  | [], ys, st => rfl
  | x :: xs, ys, (arr, sta) => by
    rw [List.cons_append, List.forIn_cons, List.forIn_cons]
    unfold lsBody
    by_cases hc : (decide (sta ≤ x) && PySem.Unicode.isLineBreak (s.cps.getD x 0)) = true
    · simp only [hc, if_true]
      exact ls_app s xs ys _
    · simp only [hc, if_false, Bool.false_eq_true]
      exact ls_app s xs ys _
def spansOf : List (List Nat) → Nat → List (Nat × Nat × Nat)
  | [], _ => []
  | [p], a => [(a, a + p.length, a + p.length)]
  | p :: q :: r, a => (a, a + p.length, a + p.length + 1) :: spansOf (q :: r) (a + p.length + 1)
theorem getD_tl (s : Str) (i : Nat) : s.cps.getD i 0 = (tl s).getD i 0 := by
  unfold tl
  simp
theorem ls_parts (s : Str) : ∀ (ps : List (List Nat)) (a : Nat) (arr : Array (Nat × Nat × Nat)), ps ≠ [] → (tl s).drop a = joinL [10] ps → a ≤ (tl s).length → (∀ p ∈ ps, ∀ c ∈ p, PySem.Unicode.isLineBreak c = false) → (∀ p, ps.getLast? = some p → p ≠ []) →
    lsEnd s (Id.run (forIn (m := Id) (List.range' a ((tl s).length - a)) (arr, a) (lsBody s))) = arr.toList ++ spansOf ps a
  | [], _, _, h, _, _, _, _ => absurd rfl h
  | [p], a, arr, _, hd, ha, hb, hl => by
    have hn : (tl s).length - a = p.length := by
      have z := congrArg List.length hd
      rw [List.length_drop] at z
      exact z
    have hp := hl p rfl
    have hpl : 0 < p.length := List.length_pos_iff.mpr hp
    rw [ls_quiet s _ a (arr, a) fun i h1 h2 => ?_]
    · unfold lsEnd
      have hlen : s.length = a + p.length := by rw [len_tl]; omega
      rw [if_pos (show (arr, a).2 < s.length by rw [hlen]; show a < _; omega), Array.toList_push, hlen]
      rfl
    · rw [getD_tl]
      have e : (tl s).getD i 0 = p.getD (i - a) 0 := by
        have z : ((tl s).drop a).getD (i - a) 0 = p.getD (i - a) 0 := by rw [hd]; rfl
        rw [List.getD_eq_getElem?_getD, List.getElem?_drop, show a + (i - a) = i by omega, ← List.getD_eq_getElem?_getD] at z
        exact z
      rw [e]
      have hi : i - a < p.length := by omega
      rw [List.getD_eq_getElem?_getD, List.getElem?_eq_getElem hi]
      exact hb p List.mem_cons_self _ (List.getElem_mem hi)
  | p :: q :: r, a, arr, _, hd, ha, hb, hl => by
    have hd : (tl s).drop a = p ++ (10 :: joinL [10] (q :: r)) := hd
    have hn : (tl s).length - a = p.length + (1 + ((tl s).length - (a + p.length + 1))) := by
      have z := congrArg List.length hd
      rw [List.length_drop, List.length_append, List.length_cons] at z
      omega
    have at_ : ∀ i, (tl s).getD (a + i) 0 = (p ++ (10 :: joinL [10] (q :: r))).getD i 0 := fun i => by
      rw [← hd, List.getD_eq_getElem?_getD, List.getD_eq_getElem?_getD, List.getElem?_drop]
    have e10 : s.cps.getD (a + p.length) 0 = 10 := by
      rw [getD_tl, at_, List.getD_eq_getElem?_getD, List.getElem?_append_right (Nat.le_refl _), Nat.sub_self]
      rfl
    have ha2 : a + p.length + 1 ≤ (tl s).length := by
      have z := congrArg List.length hd
      rw [List.length_drop, List.length_append, List.length_cons] at z
      omega
    have hd2 : (tl s).drop (a + p.length + 1) = joinL [10] (q :: r) := by
      rw [show a + p.length + 1 = a + (p.length + 1) by omega, ← List.drop_drop, hd, List.drop_append, List.drop_of_length_le (by omega), List.nil_append, show p.length + 1 - p.length = 1 by omega]
      rfl
    rw [hn, ← List.range'_append_1 (s := a) (m := p.length), ls_app, ← List.range'_append_1 (m := 1)]
    have qt := ls_quiet s p.length a (arr, a) fun i h1 h2 => by
      rw [getD_tl, show i = a + (i - a) by omega, at_, List.getD_eq_getElem?_getD, List.getElem?_append_left (by omega), List.getElem?_eq_getElem (show i - a < p.length by omega)]
      exact hb p List.mem_cons_self _ (List.getElem_mem _)
    rw [qt]
    rw [List.range'_succ, List.range'_zero, List.singleton_append, List.forIn_cons]
    have hc : (decide ((arr, a).snd ≤ a + p.length) && PySem.Unicode.isLineBreak (s.cps.getD (a + p.length) 0)) = true := by
      rw [e10, decide_eq_true (show (arr, a).snd ≤ a + p.length by show a ≤ _; omega)]
      decide +kernel
    have nx : lsNext s (a + p.length) = a + p.length + 1 := by
      unfold lsNext
      rw [e10]
      rfl
    unfold lsBody
    simp only [hc, if_true, nx]
    have ih := ls_parts s (q :: r) (a + p.length + 1) (arr.push (a, a + p.length, a + p.length + 1)) (by simp) hd2 ha2 (fun x hx => hb x (List.mem_cons_of_mem _ hx)) (fun x hx => hl x (by rw [List.getLast?_cons_cons]; exact hx))
    rw [Array.toList_push, List.append_assoc] at ih
    exact ih
theorem lines_spans (x : Str) : Txt.lines x = (PySem.Builtin.Str.lineSpans x).map fun p => strSub x p.1 p.2.1 := by
  have e : PySem.linesOf x = (PySem.Builtin.Str.lineSpans x).map fun (p : Nat × Nat × Nat) => strSub x p.1 p.2.1 := by
    unfold PySem.linesOf PySem.lineCuts
    rw [List.map_map]
    apply List.map_congr_left
    intro ⟨i, j, k⟩ _
    rfl
  unfold Txt.lines
  split
  · rename_i h
    have h : PySem.lineCuts x = [(0, x.length)] := by simpa using h
    rw [← e]
    unfold PySem.linesOf
    rw [h]
    show [x] = [strSub x 0 x.length]
    rw [show strSub x 0 x.length = x from ext_tl (by rw [tl_strSub_end, List.drop_zero])]
  · exact e
theorem spans_back (s : Str) : ∀ (ps : List (List Nat)) (a : Nat), (tl s).drop a = joinL [10] ps → ((spansOf ps a).map fun p => tl (strSub s p.1 p.2.1)) = ps
  | [], _, _ => rfl
  | [p], a, h => by
    show [tl (strSub s a (a + p.length))] = [p]
    rw [tl_strSub, h]
    show [List.take _ p] = [p]
    rw [List.take_of_length_le (by omega)]
  | p :: q :: r, a, h => by
    have h : (tl s).drop a = p ++ (10 :: joinL [10] (q :: r)) := h
    show tl (strSub s a (a + p.length)) :: _ = _
    rw [tl_strSub, h, show a + p.length - a = p.length by omega, List.take_left]
    have ih := spans_back s (q :: r) (a + p.length + 1) (by rw [show a + p.length + 1 = a + (p.length + 1) by omega, ← List.drop_drop, h, List.drop_append, List.drop_of_length_le (by omega), List.nil_append, show p.length + 1 - p.length = 1 by omega]; rfl)
    exact congrArg (p :: ·) ih
/-- a joined text, cut at its lines -/
theorem lines_join {parts : List Str} (hp : ∀ p ∈ parts, ∀ c ∈ tl p, PySem.Unicode.isLineBreak c = false) (hl : ∀ p, parts.getLast? = some p → tl p ≠ []) : Txt.lines (Txt.join ("\n" : Str) parts) = parts := by
  cases parts with
  | nil => decide +kernel
  | cons p0 r =>
    have et : tl (Txt.join ("\n" : Str) (p0 :: r)) = joinL [10] ((p0 :: r).map tl) := by
      rw [join_eq, tl_join]
      rfl
    generalize Txt.join ("\n" : Str) (p0 :: r) = x at et
    have run := ls_parts x ((p0 :: r).map tl) 0 #[] (by simp) (by rw [List.drop_zero, et]) (Nat.zero_le _) (fun p h c hc => by
      obtain ⟨z, hz, rfl⟩ := List.mem_map.mp h
      exact hp z hz c hc) (fun p h => by
      rw [List.getLast?_map] at h
      obtain ⟨z, hz, rfl⟩ := Option.map_eq_some_iff.mp h
      exact hl z hz)
    have es : PySem.Builtin.Str.lineSpans x = spansOf ((p0 :: r).map tl) 0 := by
      rw [PySem.StrLaws.ls_eq, len_tl]
      rw [Nat.sub_zero] at run
      rw [run]
      rfl
    rw [lines_spans, es]
    refine map_tl_inj ?_
    rw [List.map_map]
    exact spans_back x _ 0 (by rw [List.drop_zero, et])
/-! the words of a row -/
def wd (L : List Nat) : List (List Nat) := (spl [32] 0 [] L).filter fun p => !p.isEmpty
theorem wd_nil : wd [] = [] := rfl
theorem wd_blank (L : List Nat) : wd (32 :: L) = wd L := by
  unfold wd
  rw [spl_hit (show pre [32] (32 :: L) = true from rfl)]
  rfl
theorem wd_blanks : ∀ (n : Nat) (L : List Nat), wd (List.replicate n 32 ++ L) = wd L
  | 0, L => rfl
  | n + 1, L => by
    rw [List.replicate_succ, List.cons_append, wd_blank, wd_blanks n L]
theorem wd_last {p : List Nat} (h : 32 ∉ p) (hp : p ≠ []) : wd p = [p] := by
  unfold wd
  rw [spl_last1 h, List.nil_append]
  cases p with
  | nil => exact absurd rfl hp
  | cons a r => rfl
theorem wd_word {p : List Nat} (L : List Nat) (h : 32 ∉ p) (hp : p ≠ []) : wd (p ++ 32 :: L) = p :: wd L := by
  unfold wd
  rw [show p ++ 32 :: L = p ++ ([32] ++ L) from rfl, spl_part1 h, List.nil_append]
  cases p with
  | nil => exact absurd rfl hp
  | cons a r => rfl
theorem wd_join : ∀ (ws : List (List Nat)) (b c : Nat), (∀ w ∈ ws, 32 ∉ w ∧ w ≠ []) → wd (joinL (List.replicate (b + 1) 32) ws ++ List.replicate c 32) = ws
  | [], b, c, _ => by
    have z := wd_blanks c []
    rw [List.append_nil] at z
    exact z
  | [w], b, c, h => by
    have hw := h w List.mem_cons_self
    show wd (w ++ List.replicate c 32) = [w]
    cases c with
    | zero => rw [List.replicate_zero, List.append_nil, wd_last hw.1 hw.2]
    | succ c =>
      have z := wd_blanks c []
      rw [List.append_nil] at z
      rw [List.replicate_succ, wd_word _ hw.1 hw.2, z]
      rfl
  | w :: v :: r, b, c, h => by
    have hw := h w List.mem_cons_self
    have e : joinL (List.replicate (b + 1) 32) (w :: v :: r) ++ List.replicate c 32 = w ++ 32 :: (List.replicate b 32 ++ (joinL (List.replicate (b + 1) 32) (v :: r) ++ List.replicate c 32)) := by
      show (w ++ (List.replicate (b + 1) 32 ++ joinL _ (v :: r))) ++ _ = _
      rw [List.append_assoc, List.append_assoc, List.replicate_succ]
      rfl
    rw [e, wd_word _ hw.1 hw.2, wd_blanks, wd_join (v :: r) b c fun x hx => h x (List.mem_cons_of_mem _ hx)]
/-- what the program keeps of a row cut at its blanks -/
theorem words_tl (row : Str) : ((Txt.split row (" " : Str)).filter fun w => decide (w ≠ ("" : Str))).map tl = wd (tl row) := by
  have e := split_spl row (" " : Str) (by decide +kernel) (kind_ok (by decide +kernel))
  unfold wd
  rw [show ([32] : List Nat) = tl (" " : Str) by decide +kernel, ← e, List.filter_map]
  congr 1
  apply List.filter_congr
  intro w _
  show decide (w ≠ ("" : Str)) = !(tl w).isEmpty
  by_cases h : w = ("" : Str)
  · rw [h]
    decide +kernel
  · rw [decide_eq_true h]
    cases e : tl w with
    | nil => exact absurd (ext_tl (by rw [e]; decide +kernel)) h
    | cons a r => rfl
end
end Tk
namespace Tk
open PySem PySem.Spec PyProof.Rows L2 Evl
def top (i : Nat) : Stmt := PySem.Challenge.pw_turnstile_k12_whole_rows_played.main.body.getD i (.Pass ⟨0, 0, 0, 0⟩)
abbrev s_is_within : Stmt := top 9
theorem sc_is_within : FnScope ["value", "least", "largest"] ["value", "least", "largest"] (C8.fnScope s_is_within) := C8.fnScope_by (by decide +kernel)
abbrev s_Meter_can : Stmt := inClass (top 11) 0
theorem sc_Meter_can : FnScope ["self", "moment", "cost"] ["self", "moment", "cost"] (C8.fnScope s_Meter_can) := C8.fnScope_by (by decide +kernel)
abbrev s_Meter_wait : Stmt := inClass (top 11) 1
theorem sc_Meter_wait : FnScope ["self", "moment", "cost"] ["self", "moment", "cost"] (C8.fnScope s_Meter_wait) := C8.fnScope_by (by decide +kernel)
abbrev s_Meter_take : Stmt := inClass (top 11) 2
theorem sc_Meter_take : FnScope ["self", "moment", "cost"] ["self", "moment", "cost"] (C8.fnScope s_Meter_take) := C8.fnScope_by (by decide +kernel)
abbrev s_Meter_kept : Stmt := inClass (top 11) 3
theorem sc_Meter_kept : FnScope ["self"] ["self"] (C8.fnScope s_Meter_kept) := C8.fnScope_by (by decide +kernel)
abbrev s_JarMeter_init : Stmt := inClass (top 12) 0
theorem sc_JarMeter_init : FnScope ["self", "size", "flow"] ["self", "size", "flow"] (C8.fnScope s_JarMeter_init) := C8.fnScope_by (by decide +kernel)
abbrev s_JarMeter_can : Stmt := inClass (top 12) 1
theorem sc_JarMeter_can : FnScope ["self", "moment", "cost"] ["self", "moment", "cost"] (C8.fnScope s_JarMeter_can) := C8.fnScope_by (by decide +kernel)
abbrev s_JarMeter_wait : Stmt := inClass (top 12) 2
theorem sc_JarMeter_wait : FnScope ["self", "moment", "cost", "excess"] ["self", "moment", "cost"] (C8.fnScope s_JarMeter_wait) := C8.fnScope_by (by decide +kernel)
abbrev s_JarMeter_take : Stmt := inClass (top 12) 3
theorem sc_JarMeter_take : FnScope ["self", "moment", "cost"] ["self", "moment", "cost"] (C8.fnScope s_JarMeter_take) := C8.fnScope_by (by decide +kernel)
abbrev s_JarMeter_kept : Stmt := inClass (top 12) 4
theorem sc_JarMeter_kept : FnScope ["self"] ["self"] (C8.fnScope s_JarMeter_kept) := C8.fnScope_by (by decide +kernel)
abbrev s_JarMeter__level_at : Stmt := inClass (top 12) 5
theorem sc_JarMeter__level_at : FnScope ["self", "moment"] ["self", "moment"] (C8.fnScope s_JarMeter__level_at) := C8.fnScope_by (by decide +kernel)
abbrev s_WindowMeter_init : Stmt := inClass (top 13) 0
theorem sc_WindowMeter_init : FnScope ["self", "most", "span"] ["self", "most", "span"] (C8.fnScope s_WindowMeter_init) := C8.fnScope_by (by decide +kernel)
abbrev s_WindowMeter_can : Stmt := inClass (top 13) 1
theorem sc_WindowMeter_can : FnScope ["self", "moment", "cost"] ["self", "moment", "cost"] (C8.fnScope s_WindowMeter_can) := C8.fnScope_by (by decide +kernel)
abbrev s_WindowMeter_wait : Stmt := inClass (top 13) 2
theorem sc_WindowMeter_wait : FnScope ["self", "moment", "cost", "due", "last_due"] ["self", "moment", "cost"] (C8.fnScope s_WindowMeter_wait) := C8.fnScope_by (by decide +kernel)
abbrev s_WindowMeter_take : Stmt := inClass (top 13) 3
theorem sc_WindowMeter_take : FnScope ["self", "moment", "cost"] ["self", "moment", "cost"] (C8.fnScope s_WindowMeter_take) := C8.fnScope_by (by decide +kernel)
abbrev s_WindowMeter_kept : Stmt := inClass (top 13) 4
theorem sc_WindowMeter_kept : FnScope ["self"] ["self"] (C8.fnScope s_WindowMeter_kept) := C8.fnScope_by (by decide +kernel)
abbrev s_WindowMeter__forget : Stmt := inClass (top 13) 5
theorem sc_WindowMeter__forget : FnScope ["self", "moment", "many"] ["self", "moment"] (C8.fnScope s_WindowMeter__forget) := C8.fnScope_by (by decide +kernel)
abbrev s_new_meters : Stmt := top 14
theorem sc_new_meters : FnScope ["bounds", "bound"] ["bounds"] (C8.fnScope s_new_meters) := C8.fnScope_by (by decide +kernel)
abbrev s_wait_for_all : Stmt := top 15
theorem sc_wait_for_all : FnScope ["meters", "moment", "cost", "longest", "meter", "wait"] ["meters", "moment", "cost"] (C8.fnScope s_wait_for_all) := C8.fnScope_by (by decide +kernel)
abbrev s_take_by_all : Stmt := top 16
theorem sc_take_by_all : FnScope ["meters", "moment", "cost", "meter"] ["meters", "moment", "cost"] (C8.fnScope s_take_by_all) := C8.fnScope_by (by decide +kernel)
abbrev s_place_reaching : Stmt := top 17
theorem sc_place_reaching : FnScope ["rows", "total", "low", "high", "middle"] ["rows", "total"] (C8.fnScope s_place_reaching) := C8.fnScope_by (by decide +kernel)
abbrev s_Bound_room : Stmt := inClass (top 23) 0
theorem sc_Bound_room : FnScope ["self", "first", "last"] ["self", "first", "last"] (C8.fnScope s_Bound_room) := C8.fnScope_by (by decide +kernel)
abbrev s_Bound_meter : Stmt := inClass (top 23) 1
theorem sc_Bound_meter : FnScope ["self"] ["self"] (C8.fnScope s_Bound_meter) := C8.fnScope_by (by decide +kernel)
abbrev s_Jar_init : Stmt := inClass (top 24) 0
theorem sc_Jar_init : FnScope ["self", "size", "flow"] ["self", "size", "flow"] (C8.fnScope s_Jar_init) := C8.fnScope_by (by decide +kernel)
abbrev s_Jar_size : Stmt := inClass (top 24) 1
theorem sc_Jar_size : FnScope ["self"] ["self"] (C8.fnScope s_Jar_size) := C8.fnScope_by (by decide +kernel)
abbrev s_Jar_flow : Stmt := inClass (top 24) 2
theorem sc_Jar_flow : FnScope ["self"] ["self"] (C8.fnScope s_Jar_flow) := C8.fnScope_by (by decide +kernel)
abbrev s_Jar_room : Stmt := inClass (top 24) 3
theorem sc_Jar_room : FnScope ["self", "first", "last"] ["self", "first", "last"] (C8.fnScope s_Jar_room) := C8.fnScope_by (by decide +kernel)
abbrev s_Jar_meter : Stmt := inClass (top 24) 4
theorem sc_Jar_meter : FnScope ["self"] ["self"] (C8.fnScope s_Jar_meter) := C8.fnScope_by (by decide +kernel)
abbrev s_Window_init : Stmt := inClass (top 25) 0
theorem sc_Window_init : FnScope ["self", "most", "span"] ["self", "most", "span"] (C8.fnScope s_Window_init) := C8.fnScope_by (by decide +kernel)
abbrev s_Window_most : Stmt := inClass (top 25) 1
theorem sc_Window_most : FnScope ["self"] ["self"] (C8.fnScope s_Window_most) := C8.fnScope_by (by decide +kernel)
abbrev s_Window_span : Stmt := inClass (top 25) 2
theorem sc_Window_span : FnScope ["self"] ["self"] (C8.fnScope s_Window_span) := C8.fnScope_by (by decide +kernel)
abbrev s_Window_room : Stmt := inClass (top 25) 3
theorem sc_Window_room : FnScope ["self", "first", "last"] ["self", "first", "last"] (C8.fnScope s_Window_room) := C8.fnScope_by (by decide +kernel)
abbrev s_Window_meter : Stmt := inClass (top 25) 4
theorem sc_Window_meter : FnScope ["self"] ["self"] (C8.fnScope s_Window_meter) := C8.fnScope_by (by decide +kernel)
abbrev s_check_bound : Stmt := top 30
theorem sc_check_bound : FnScope ["bound"] ["bound"] (C8.fnScope s_check_bound) := C8.fnScope_by (by decide +kernel)
abbrev s_copied_bounds : Stmt := top 31
theorem sc_copied_bounds : FnScope ["bounds", "bound"] ["bounds"] (C8.fnScope s_copied_bounds) := C8.fnScope_by (by decide +kernel)
abbrev s_check_moment : Stmt := top 32
theorem sc_check_moment : FnScope ["moment"] ["moment"] (C8.fnScope s_check_moment) := C8.fnScope_by (by decide +kernel)
abbrev s_check_cost : Stmt := top 33
theorem sc_check_cost : FnScope ["cost"] ["cost"] (C8.fnScope s_check_cost) := C8.fnScope_by (by decide +kernel)
abbrev s_Gate_init : Stmt := inClass (top 36) 0
theorem sc_Gate_init : FnScope ["self", "own", "common"] ["self", "own", "common"] (C8.fnScope s_Gate_init) := C8.fnScope_by (by decide +kernel)
abbrev s_Gate_ask : Stmt := inClass (top 36) 1
theorem sc_Gate_ask : FnScope ["self", "name", "moment", "cost"] ["self", "name", "moment", "cost"] (C8.fnScope s_Gate_ask) := C8.fnScope_by (by decide +kernel)
abbrev s_Gate_visit : Stmt := inClass (top 36) 2
theorem sc_Gate_visit : FnScope ["self", "name", "moment", "cost", "answer", "own"] ["self", "name", "moment", "cost"] (C8.fnScope s_Gate_visit) := C8.fnScope_by (by decide +kernel)
abbrev s_Gate_names : Stmt := inClass (top 36) 3
theorem sc_Gate_names : FnScope ["self"] ["self"] (C8.fnScope s_Gate_names) := C8.fnScope_by (by decide +kernel)
abbrev s_Gate_kept : Stmt := inClass (top 36) 4
theorem sc_Gate_kept : FnScope ["self", "meters", "own", "meter"] ["self"] (C8.fnScope s_Gate_kept) := C8.fnScope_by (by decide +kernel)
abbrev s_Gate__check : Stmt := inClass (top 36) 5
theorem sc_Gate__check : FnScope ["self", "name", "moment", "cost"] ["self", "name", "moment", "cost"] (C8.fnScope s_Gate__check) := C8.fnScope_by (by decide +kernel)
abbrev s_Gate__meters_of : Stmt := inClass (top 36) 6
theorem sc_Gate__meters_of : FnScope ["self", "name"] ["self", "name"] (C8.fnScope s_Gate__meters_of) := C8.fnScope_by (by decide +kernel)
abbrev s_Gate__answer : Stmt := inClass (top 36) 7
theorem sc_Gate__answer : FnScope ["self", "own", "moment", "cost", "which", "meters", "k", "meter"] ["self", "own", "moment", "cost"] (C8.fnScope s_Gate__answer) := C8.fnScope_by (by decide +kernel)
abbrev s_is_name : Stmt := top 37
theorem sc_is_name : FnScope ["name", "sign"] ["name"] (C8.fnScope s_is_name) := C8.fnScope_by (by decide +kernel)
abbrev s_play : Stmt := top 41
theorem sc_play : FnScope ["text", "player", "answers", "row", "words", "word"] ["text"] (C8.fnScope s_play) := C8.fnScope_by (by decide +kernel)
abbrev s_Player_init : Stmt := inClass (top 42) 0
theorem sc_Player_init : FnScope ["self"] ["self"] (C8.fnScope s_Player_init) := C8.fnScope_by (by decide +kernel)
abbrev s_Player_answer : Stmt := inClass (top 42) 1
theorem sc_Player_answer : FnScope ["self", "words"] ["self", "words"] (C8.fnScope s_Player_answer) := C8.fnScope_by (by decide +kernel)
abbrev s_Player__add_bound : Stmt := inClass (top 42) 2
theorem sc_Player__add_bound : FnScope ["self", "words", "large", "small", "bound"] ["self", "words"] (C8.fnScope s_Player__add_bound) := C8.fnScope_by (by decide +kernel)
abbrev s_Player__ask_or_visit : Stmt := inClass (top 42) 3
theorem sc_Player__ask_or_visit : FnScope ["self", "words", "moment", "cost", "gate"] ["self", "words"] (C8.fnScope s_Player__ask_or_visit) := C8.fnScope_by (by decide +kernel)
abbrev s_Player__tell : Stmt := inClass (top 42) 4
theorem sc_Player__tell : FnScope ["self", "words", "gate", "names"] ["self", "words"] (C8.fnScope s_Player__tell) := C8.fnScope_by (by decide +kernel)
abbrev s_Player__made_gate : Stmt := inClass (top 42) 5
theorem sc_Player__made_gate : FnScope ["self"] ["self"] (C8.fnScope s_Player__made_gate) := C8.fnScope_by (by decide +kernel)
abbrev s_answer_or_refusal : Stmt := top 43
theorem sc_answer_or_refusal : FnScope ["player", "words"] ["player", "words"] (C8.fnScope s_answer_or_refusal) := C8.fnScope_by (by decide +kernel)
abbrev s_check_length : Stmt := top 44
theorem sc_check_length : FnScope ["words", "many"] ["words", "many"] (C8.fnScope s_check_length) := C8.fnScope_by (by decide +kernel)
abbrev s_number : Stmt := top 45
theorem sc_number : FnScope ["word", "sign"] ["word"] (C8.fnScope s_number) := C8.fnScope_by (by decide +kernel)
abbrev s_shown : Stmt := top 46
theorem sc_shown : FnScope ["told", "_", "which", "k", "wait", "shown_wait"] ["told"] (C8.fnScope s_shown) := C8.fnScope_by (by decide +kernel)
abbrev s_Lcell : Stmt := top 48
theorem sc_Lcell : FnScope ["_law_script", "_law_k", "_law_cell_here", "_law_more"] ["_law_script", "_law_k"] (C8.fnScope s_Lcell) := C8.fnScope_by (by decide +kernel)
abbrev s_Lbound : Stmt := top 49
theorem sc_Lbound : FnScope ["_law_cell_here", "_law_scale_here", "_law_flow"] ["_law_cell_here", "_law_scale_here"] (C8.fnScope s_Lbound) := C8.fnScope_by (by decide +kernel)
abbrev s_Lmade : Stmt := top 50
theorem sc_Lmade : FnScope ["_law_bound_here"] ["_law_bound_here"] (C8.fnScope s_Lmade) := C8.fnScope_by (by decide +kernel)
abbrev s_Lgap : Stmt := top 51
theorem sc_Lgap : FnScope ["_law_cell_here"] ["_law_cell_here"] (C8.fnScope s_Lgap) := C8.fnScope_by (by decide +kernel)
abbrev s_Lcost : Stmt := top 52
theorem sc_Lcost : FnScope ["_law_cell_here", "_law_scale_here", "_law_many"] ["_law_cell_here", "_law_scale_here"] (C8.fnScope s_Lcost) := C8.fnScope_by (by decide +kernel)
abbrev s_Lscale : Stmt := top 53
theorem sc_Lscale : FnScope ["_law_cell_here"] ["_law_cell_here"] (C8.fnScope s_Lscale) := C8.fnScope_by (by decide +kernel)
abbrev s_Lkind : Stmt := top 54
theorem sc_Lkind : FnScope ["_law_error", "_law_flags"] ["_law_error"] (C8.fnScope s_Lkind) := C8.fnScope_by (by decide +kernel)
abbrev s_Ltext : Stmt := top 55
theorem sc_Ltext : FnScope ["_law_found", "_law_wait"] ["_law_found"] (C8.fnScope s_Ltext) := C8.fnScope_by (by decide +kernel)
abbrev s_Lanswer : Stmt := top 56
theorem sc_Lanswer : FnScope ["_law_gate", "_law_asked", "_law_error", "_law_found", "e"] ["_law_gate", "_law_asked"] (C8.fnScope s_Lanswer) := C8.fnScope_by (by decide +kernel)
abbrev s_Lspread : Stmt := top 57
theorem sc_Lspread : FnScope ["_law_cell_here", "_law_words", "_law_row_here"] ["_law_cell_here", "_law_words"] (C8.fnScope s_Lspread) := C8.fnScope_by (by decide +kernel)
abbrev s_Lrow : Stmt := top 58
theorem sc_Lrow : FnScope ["_law_cell_here", "_law_more", "_law_moment", "_law_scale_here", "_law_name", "_law_cost_here"] ["_law_cell_here", "_law_more", "_law_moment", "_law_scale_here"] (C8.fnScope s_Lrow) := C8.fnScope_by (by decide +kernel)
abbrev s_law : Stmt := top 59
theorem sc_law : FnScope ["_law_script", "_law_scale_here", "_law_k", "_law_own", "_law_common", "_law_lines", "_law_gate", "_law_due", "_law_moment", "_law_cell_here", "_law_asked", "_law_found", "_law_bound_here", "_law_part"] ["_law_script"] (C8.fnScope s_law) := C8.fnScope_by (by decide +kernel)
/-- what the top has left of the built-ins; its numbers -/
structure Blt (mg : Str → Option Value) : Prop where
  b_len : mg "len" = none
  b_range : mg "range" = none
  b_max : mg "max" = none
  b_min : mg "min" = none
  b_int : mg "int" = none
  b_tuple : mg "tuple" = none
  b_list : mg "list" = none
  b_isinstance : mg "isinstance" = none
  b_enumerate : mg "enumerate" = none
  b_ValueError : mg "ValueError" = none
  b_super : mg "super" = none
  b_all : mg "all" = none
  b_sorted : mg "sorted" = none
  b_sum : mg "sum" = none
  b_str : mg "str" = none
  b_bool : mg "bool" = none
structure Cst (mg : Str → Option Value) : Prop where
  g_LARGEST_SIZE : ∃ u, mg "LARGEST_SIZE" = some u ∧ RelV (.int 1000000000000000) u
  g_LARGEST_FLOW : ∃ u, mg "LARGEST_FLOW" = some u ∧ RelV (.int 1000000000) u
  g_LARGEST_MOST : ∃ u, mg "LARGEST_MOST" = some u ∧ RelV (.int 1000000000000000) u
  g_LARGEST_SPAN : ∃ u, mg "LARGEST_SPAN" = some u ∧ RelV (.int 1000000000000) u
  g_MOST_BOUNDS : ∃ u, mg "MOST_BOUNDS" = some u ∧ RelV (.int 4) u
  g_LARGEST_MOMENT : ∃ u, mg "LARGEST_MOMENT" = some u ∧ RelV (.int 1000000000000) u
  g_LARGEST_COST : ∃ u, mg "LARGEST_COST" = some u ∧ RelV (.int 1000000000) u
  g_LONGEST_NAME : ∃ u, mg "LONGEST_NAME" = some u ∧ RelV (.int 8) u
  g_MOST_FIGURES : ∃ u, mg "MOST_FIGURES" = some u ∧ RelV (.int 16) u
  g_FIGURES : ∃ u, mg "FIGURES" = some u ∧ RelV (.str "0123456789") u
/-! data compared -/
theorem dp_ints {K : PySem.W.Frag} {H : Hp} : ∀ ns : List Int, DpAll K H (ns.map V.int) (ns.map PyData.int)
  | [] => .nil
  | n :: ns => .cons (.int n) (dp_ints ns)
theorem lay_ints : ∀ ns : List Int, PyData.canLayAll0 (ns.map PyData.int) = true
  | [] => by simp only [List.map_nil, PyData.canLayAll0]
  | n :: ns => by simp only [List.map_cons, PyData.canLayAll0, PyData.canLay0, lay_ints ns, Bool.and_self]
theorem dep_ints : ∀ ns : List Int, PyData.depthAll (ns.map PyData.int) = 0
  | [] => by simp only [List.map_nil, PyData.depthAll]
  | n :: ns => by simp only [List.map_cons, PyData.depthAll, PyData.depth, dep_ints ns, Nat.max_self]
theorem shaped_list {ds : List PyData} (h : PyData.canLayAll0 ds = true) (hd : PyData.depthAll ds ≤ 60) : PySem.SeqAt.shaped (.list ds) = true := by
  unfold PySem.SeqAt.shaped
  rw [Bool.and_eq_true, decide_eq_true_eq]
  refine ⟨by simp only [PyData.canLay0, h], ?_⟩
  simp only [PyData.depth]
  omega
theorem shaped_tuple {ds : List PyData} (h : PyData.canLayAll0 ds = true) (hd : PyData.depthAll ds ≤ 60) : PySem.SeqAt.shaped (.tuple ds) = true := by
  unfold PySem.SeqAt.shaped
  rw [Bool.and_eq_true, decide_eq_true_eq]
  refine ⟨by simp only [PyData.canLay0, h], ?_⟩
  simp only [PyData.depth]
  omega
theorem shaped_ints (ns : List Int) : PySem.SeqAt.shaped (.list (ns.map PyData.int)) = true := shaped_list (lay_ints ns) (by rw [dep_ints]; omega)
theorem shaped_tints (ns : List Int) : PySem.SeqAt.shaped (.tuple (ns.map PyData.int)) = true := shaped_tuple (lay_ints ns) (by rw [dep_ints]; omega)
theorem eqvAll_ints : ∀ ns ms : List Int, PyData.eqvAll (ns.map PyData.int) (ms.map PyData.int) = decide (ns = ms)
  | [], [] => by simp [PyData.eqvAll]
  | [], m :: ms => by simp [PyData.eqvAll]
  | n :: ns, [] => by simp [PyData.eqvAll]
  | n :: ns, m :: ms => by
    simp only [List.map_cons, PyData.eqvAll, PyData.eqv, eqvAll_ints ns ms, List.cons.injEq, Bool.decide_and]
    congr 1
theorem eqv_ints (ns ms : List Int) : PyData.eqv (.list (ns.map PyData.int)) (.list (ms.map PyData.int)) = decide (ns = ms) := by
  simp only [PyData.eqv, eqvAll_ints]
theorem eqv_tints (ns ms : List Int) : PyData.eqv (.tuple (ns.map PyData.int)) (.tuple (ms.map PyData.int)) = decide (ns = ms) := by
  simp only [PyData.eqv, eqvAll_ints]
/-- xs != [] -/
theorem ev_neNil {K : PySem.W.Frag} {σ : L2.St} {H : Hp} {ta : TE} {a : Addr} {ns : List Int} (ha : Ev ta σ H (.ref a)) (hx : SqL K H a (ns.map V.int)) : Ev (tOp (rNeD K) ta (tLst tNil)) σ H (.bl (!decide (ns = []))) :=
  ev_opL (xs := []) ha (el_lst ea_nil (by decide)) fun p H1 hp e => by
    rw [← eqv_ints ns []]
    exact rv_neD (fun H2 e2 => .lst (ex_l (e.trans e2) hx) (dp_ints ns)) (fun H2 e2 => .lst (sq_of (e2 p _ hp)) .nil) (shaped_ints ns) (shaped_ints [])
theorem atI_ints {ns : List Int} {i : Int} (h0 : 0 ≤ i) (h1 : i < (ns.length : Int)) : atI (ns.map V.int) i = some (.int (ns.getD i.toNat 0)) := by
  obtain ⟨j, rfl⟩ : ∃ j : Nat, i = (j : Int) := ⟨i.toNat, by omega⟩
  have hj : j < ns.length := by omega
  refine atI_nat ?_
  rw [List.getElem?_map, Int.toNat_natCast, List.getD_eq_getElem?_getD, List.getElem?_eq_getElem hj]
  rfl
/-! items of displays of numbers -/
inductive Ints : List V → List Int → Prop
  | nil : Ints [] []
  | cons {i : Int} {vs : List V} {ns : List Int} : Ints vs ns → Ints (.int i :: vs) (i :: ns)
theorem Ints.map {vs : List V} {ns : List Int} (h : Ints vs ns) : vs = ns.map V.int := by
  induction h with
  | nil => rfl
  | cons _ ih => rw [ih]; rfl
theorem atI_disp {vs : List V} {ns : List Int} {i : Int} (h : Ints vs ns) (h0 : 0 ≤ i) (h1 : i < (ns.length : Int)) : atI vs i = some (.int (ns.getD i.toNat 0)) := by
  rw [h.map]
  exact atI_ints h0 h1
theorem getD_in {lo hi : Int} : ∀ (l : List Int) (n : Nat), (∀ x ∈ l, lo ≤ x ∧ x ≤ hi) → n < l.length → lo ≤ l.getD n 0 ∧ l.getD n 0 ≤ hi
  | [], _, _, h => absurd h (Nat.not_lt_zero _)
  | x :: _, 0, h, _ => h x List.mem_cons_self
  | _ :: l, n + 1, h, hn => getD_in l n (fun x hx => h x (List.mem_cons_of_mem _ hx)) (Nat.lt_of_succ_lt_succ hn)
def opV : Option Int → V
  | none => .non
  | some i => .int i
local macro_rules | `(tactic| walk_at "tk_lok") => `(tactic| first | (simp only [List.length_cons, List.length_nil]; omega) | (simp only [List.length_cons, List.length_nil, List.length_append, List.length_map]; omega))
local macro_rules | `(tactic| walk_at "tk_at") => `(tactic| fail "tk_at")
local macro_rules | `(tactic| walk_at "tk_at") => `(tactic| exact rfl)
local macro_rules | `(tactic| walk_at "tk_at") => `(tactic| (refine atI_ints ?_ ?_ <;> omega))
local macro_rules | `(tactic| walk_at "tk_at") => `(tactic| (apply atI_disp; (repeat (first | exact Ints.nil | apply Ints.cons)); omega; (simp only [List.length_cons, List.length_nil]; omega)))
local macro_rules | `(tactic| walk_at "tk_len") => `(tactic| (with_reducible apply ev_lenL))
local macro_rules | `(tactic| walk_at "tk_R") => `(tactic| fail "tk_R")
local macro_rules | `(tactic| walk_at "tk_om") => `(tactic| first | omega | (simp only [List.length_map]; omega))
local macro_rules | `(tactic| walk_at "tk_ev") => `(tactic| repeat' (first
  | exact ev_c
  | (with_reducible apply rt_ret)
  | (with_reducible exact rt_retN)
  | (with_reducible apply rt_ifseq)
  | (with_reducible apply rt_seq)
  | (with_reducible apply nx_asg)
  | (with_reducible exact nx_next)
  | (with_reducible apply nx_drop)
  | (with_reducible apply rt_if)
  | (with_reducible apply rtw_ret)
  | (with_reducible apply rtw_seq)
  | ((with_reducible apply ev_var); exact rfl)
  | (with_reducible apply ev_max)
  | (with_reducible apply ev_min)
  | (with_reducible apply ev_intB)
  | (with_reducible apply ev_isN)
  | (with_reducible apply ev_notN)
  | (with_reducible apply ev_if)
  | (with_reducible apply ev_andV)
  | (with_reducible apply ev_orV)
  | (with_reducible apply ev_notV)
  | (with_reducible apply ev_chain)
  | ((with_reducible apply ev_lenI); (with_reducible apply ev_var); exact rfl; assumption)
  | walk_at "tk_len"
  | (with_reducible apply ev_fld)
  | (with_reducible apply ev_pair0)
  | (with_reducible apply ev_pair1)
  | (with_reducible apply ev_ixN)
  | (with_reducible apply ev_ixL)
  | (with_reducible apply ev_ixT)
  | (with_reducible apply ev_methF)
  | (with_reducible apply ev_callF)
  | ((with_reducible show ∀ _, Ex _ _ → _); walk_at "tk_R")
  | (with_reducible apply ev_op)
  | (with_reducible apply ev_un)
  | exact rv_I0
  | ((with_reducible show RV (rI _ _) _ _ _ _); apply rv_I)
  | exact rv_eq rfl
  | exact rv_ne rfl
  | exact ru_neg
  | (with_reducible apply et_test)
  | (with_reducible apply et_B)
  | (with_reducible apply et_and)
  | (with_reducible apply et_or)
  | (with_reducible apply et_not)
  | exact ea_nil
  | (with_reducible apply ea_cons)
  | (with_reducible apply eu_tup)
  | (with_reducible apply el_lst)
  | ((with_reducible show SqL _ _ _ _); assumption)
  | ((with_reducible show PairsT _ _ _); assumption)
  | ((with_reducible show Cls _ _); assumption)
  | ((with_reducible show NoAttr _ _ _); assumption)
  | ((with_reducible show _ = some (HO.ins _ _ _)); assumption)
  | ((with_reducible show List.lookup _ _ = some _); exact rfl)
  | ((with_reducible show List.lookup _ _ = none); exact rfl)
  | ((with_reducible show _[_]? = some _); exact getD_some (by walk_at "tk_om"))
  | ((with_reducible show (0 : Int) ≤ _); walk_at "tk_om")
  | ((with_reducible show SqT _ _ _ _); assumption)
  | ((with_reducible show atI _ _ = some _); walk_at "tk_at")
  | ((with_reducible show CMul _ _); first | (exact .inl (by decide)) | (exact .inr (by decide)) | (exact .inl (by omega)) | (exact .inr (by omega)))
  | ((with_reducible show CDiv _ _); first | (exact ⟨by decide, by decide⟩) | (exact ⟨by walk_at "tk_om", by walk_at "tk_om"⟩))
  | ((with_reducible show CPow _ _); exact ⟨by decide, by decide, by decide⟩)
  | ((with_reducible show _ ≤ 100000); first | decide | (simp only [List.length_cons, List.length_nil]; omega))
  | ((with_reducible show (0 : Int) < _); first | decide | walk_at "tk_om")
  | ((with_reducible show (_ = true → _)); intro)
  | ((with_reducible show (_ = false → _)); intro)))
/-! what a bound tells -/
inductive Bd
  | jar (size flow : Int)
  | win (most span : Int)
def Bd.cap : Bd → Int
  | .jar s _ => s
  | .win m _ => m
def Bd.two : Bd → Int
  | .jar _ f => f
  | .win _ s => s
def Bd.tup : Bd → List V
  | .jar s f => [.str "jar", .int s, .int f]
  | .win m s => [.str "window", .int m, .int s]
/-! a drawn number of the script's -/
def mixV (c k : Int) : Int := (c % 2147483647 * (c % 2147483647) % 2147483629 * (c % 2147483647 * (c % 2147483647) % 2147483629) + 69621 * (c % 2147483647 * (c % 2147483647) % 2147483629) + k) % 2147483587
def cellV (ns : List Int) (k : Int) : Int := mixV (if ns = [] then 7919 * k + 11 else 7919 * k + 11 + ns.getD (k % (ns.length : Int)).toNat 0 * 48271 + 96810 * k + k / (ns.length : Int) * 7919) k
theorem cellV_nn (ns : List Int) (k : Int) : 0 ≤ cellV ns k := Int.emod_nonneg _ (by decide)
theorem cellV_lt (ns : List Int) (k : Int) : cellV ns k < 2147483587 := Int.emod_lt_of_pos _ (by decide)
def RCell (K : PySem.W.Frag) (vs : List V) (H : Hp) (v : V) : Prop := ∃ (a : Addr) (ns : List Int) (k : Int), vs = [.ref a, .int k] ∧ SqL K H a (ns.map V.int) ∧ ns.length ≤ 63 ∧ 0 ≤ k ∧ v = .int (cellV ns k)
section
variable {P : Program} {w : World} {K : PySem.W.Frag} {mg : Str → Option Value} {base : Heap}
theorem cal_Lcell {f : Addr} {fd : FuncData} (T : Blt mg) (F : C8.Def K mg "_law_cell" s_Lcell f fd) (b : Binds K fd ["_law_script", "_law_k"] []) : C8.Cal P w K mg base 1 "_law_cell" (spF (RCell K)) [] := by
  refine calF F b sc_Lcell (fun vs H v h => ?_) (fun cdv A outer s H vs v E hr h => ?_)
  · obtain ⟨a, ns, k, rfl, _⟩ := h
    rfl
  · obtain ⟨a, ns, k, rfl, hS, hl, hk, rfl⟩ := h
    refine ⟨_, (pss_cons (ps_set (i := 2) sc_Lcell.nd rfl (Or.inl rfl) (pe_op op_add (pe_op op_mul pe_int (pv 1)) pe_int))
  (pss_cons (ps_if (pt_cmpR (op_neD hr.units) (pv 0) (pe_lst pa_nil) (nomark _))
    (pss_cons (ps_set (i := 2) sc_Lcell.nd rfl (Or.inl rfl) (pe_op op_add (pe_op op_add (pv 2) (pe_op op_mul (pe_ix ix_list (pv 0) (pe_op op_mod (pv 1) (pe_callB call_len_seq (by rfl) T.b_len boot_len (pa_cons (pv 0) pa_nil))) (fun _ _ => rfl)) pe_int)) (pe_op op_mul pe_int (pv 1))))
    (pss_one (ps_set (i := 2) sc_Lcell.nd rfl (Or.inl rfl) (pe_op op_add (pv 2) (pe_op op_mul (pe_op op_fdiv (pv 1) (pe_callB call_len_seq (by rfl) T.b_len boot_len (pa_cons (pv 0) pa_nil))) pe_int)))))
    pss_nil)
  (pss_cons (ps_set (i := 3) sc_Lcell.nd rfl (Or.inl rfl) (pe_op op_mod (pv 2) pe_int))
  (pss_cons (ps_set (i := 3) sc_Lcell.nd rfl (Or.inl rfl) (pe_op op_mod (pe_op op_mul (pv 3) (pv 3)) pe_int))
  (pss_one (ps_ret (pe_op op_mod (pe_op op_add (pe_op op_add (pe_op op_mul (pv 3) (pv 3)) (pe_op op_mul pe_int (pv 3))) (pv 1)) pe_int))))))), ?_⟩
    have m1 : ∀ c : Int, 0 ≤ c % 2147483647 ∧ c % 2147483647 < 2147483647 := fun c => ⟨Int.emod_nonneg _ (by decide), Int.emod_lt_of_pos _ (by decide)⟩
    have m2 : ∀ c : Int, 0 ≤ c % 2147483629 ∧ c % 2147483629 < 2147483629 := fun c => ⟨Int.emod_nonneg _ (by decide), Int.emod_lt_of_pos _ (by decide)⟩
    refine rt_seq (nx_asg (v := .int (7919 * k + 11)) (by walk_at "tk_ev")) ?_
    refine rt_seq (σ' := [some (.ref a), some (.int k), some (.int (if ns = [] then 7919 * k + 11 else 7919 * k + 11 + ns.getD (k % (ns.length : Int)).toNat 0 * 48271 + 96810 * k + k / (ns.length : Int) * 7919)), none]) (nx_if (et_test (ev_neNil (ev_var rfl) hS)) (fun hb => ?_) (fun hb => ?_)) ?_
    · have hne : ns ≠ [] := by simpa using hb
      rw [if_neg hne]
      have hp : 0 < (ns.length : Int) := by
        have := List.length_pos_iff.mpr hne
        omega
      have q0 : 0 ≤ k % (ns.length : Int) := Int.emod_nonneg _ (by omega)
      have q1 : k % (ns.length : Int) < (ns.length : Int) := Int.emod_lt_of_pos _ hp
      refine nx_seq (nx_asg (v := .int (7919 * k + 11 + ns.getD (k % (ns.length : Int)).toNat 0 * 48271 + 96810 * k)) ?_) (nx_asg (v := .int (7919 * k + 11 + ns.getD (k % (ns.length : Int)).toNat 0 * 48271 + 96810 * k + k / (ns.length : Int) * 7919)) ?_)
      · walk_at "tk_ev"
      · walk_at "tk_ev"
    · have hne : ns = [] := by simpa using hb
      rw [if_pos hne]
      exact nx_next
    · unfold cellV
      generalize (if ns = [] then 7919 * k + 11 else 7919 * k + 11 + ns.getD (k % (ns.length : Int)).toNat 0 * 48271 + 96810 * k + k / (ns.length : Int) * 7919) = c at *
      have c1 := m1 c
      have c2 := m2 (c % 2147483647 * (c % 2147483647))
      walk_at "tk_ev"
end
/-! the law's draws: a scale, a bound, a gap, a cost -/
def scaleV (c : Int) : Int := ([1, 1, 1000, 1000000, 40000000] : List Int).getD (c % 5).toNat 0
def boundV (c sc : Int) : Bd :=
  if c % 2 = 0 then .jar ((1 + c / 24 % 20) * sc) (min (([0, 1, 2, 3, 1, 2] : List Int).getD (c / 2 % 6).toNat 0 * ([1, sc] : List Int).getD (c / 12 % 2).toNat 0) 1000000000)
  else .win ((1 + c / 2 % 20) * sc + c / 40 % 2) (1 + c / 80 % ([6, 40] : List Int).getD (c / 3200 % 2).toNat 0)
def gapV (c : Int) : Int := ([0, 0, 1, 1, 2, 3, c / 10 % 9, c / 10 % 60, 0, c / 10 % 1000000] : List Int).getD (c % 10).toNat 0
def costV (c sc : Int) : Int := min 1000000000 (([1 + c % 6, 1, 1 + c / 3 % 20] : List Int).getD (c / 60 % 3).toNat 0 * sc + c / 180 % 2 * (sc / 2))
theorem scale_in (c : Int) : 1 ≤ scaleV c ∧ scaleV c ≤ 40000000 := getD_in _ _ (by decide) (by simp only [List.length_cons, List.length_nil]; omega)
theorem gap_in (c : Int) (h : 0 ≤ c) : 0 ≤ gapV c ∧ gapV c ≤ 1000000 := getD_in _ _ (by
  intro x hx
  simp only [List.mem_cons, List.not_mem_nil, or_false] at hx
  omega) (by simp only [List.length_cons, List.length_nil]; omega)
theorem cost_in {c sc : Int} (h : 0 ≤ c) (h1 : 1 ≤ sc) (h2 : sc ≤ 40000000) : 1 ≤ costV c sc ∧ costV c sc ≤ 1000000000 := by
  have z : 1 ≤ ([1 + c % 6, 1, 1 + c / 3 % 20] : List Int).getD (c / 60 % 3).toNat 0 ∧ ([1 + c % 6, 1, 1 + c / 3 % 20] : List Int).getD (c / 60 % 3).toNat 0 ≤ 20 := getD_in _ _ (by
    intro x hx
    simp only [List.mem_cons, List.not_mem_nil, or_false] at hx
    omega) (by simp only [List.length_cons, List.length_nil]; omega)
  unfold costV
  generalize ([1 + c % 6, 1, 1 + c / 3 % 20] : List Int).getD (c / 60 % 3).toNat 0 = m at z ⊢
  have a : 1 ≤ m * sc := by
    have := Int.mul_le_mul z.1 h1 (by decide) (by omega)
    omega
  have b : 0 ≤ c / 180 % 2 * (sc / 2) := Int.mul_nonneg (by omega) (by omega)
  omega
theorem bound_in {c sc : Int} (h : 0 ≤ c) (h1 : 1 ≤ sc) (h2 : sc ≤ 40000000) : 1 ≤ (boundV c sc).cap ∧ (boundV c sc).cap ≤ 1000000000 ∧ 0 ≤ (boundV c sc).two ∧ (boundV c sc).two ≤ 1000000000 ∧ (∀ m s, boundV c sc = .win m s → 1 ≤ s) := by
  have k : ∀ x : Int, 1 ≤ x → x ≤ 20 → 1 ≤ x * sc ∧ x * sc ≤ 800000000 := fun x a b => by
    have u := Int.mul_le_mul a h1 (by decide) (by omega)
    have w := Int.mul_le_mul b h2 (by omega) (by decide)
    omega
  unfold boundV
  by_cases hc : c % 2 = 0
  · rw [if_pos hc]
    have a := k (1 + c / 24 % 20) (by omega) (by omega)
    have d1 : 0 ≤ ([0, 1, 2, 3, 1, 2] : List Int).getD (c / 2 % 6).toNat 0 ∧ ([0, 1, 2, 3, 1, 2] : List Int).getD (c / 2 % 6).toNat 0 ≤ 3 := getD_in _ _ (by decide) (by simp only [List.length_cons, List.length_nil]; omega)
    have d2 : 1 ≤ ([1, sc] : List Int).getD (c / 12 % 2).toNat 0 ∧ ([1, sc] : List Int).getD (c / 12 % 2).toNat 0 ≤ 40000000 := getD_in _ _ (by
      intro x hx
      simp only [List.mem_cons, List.not_mem_nil, or_false] at hx
      omega) (by simp only [List.length_cons, List.length_nil]; omega)
    have d3 := Int.mul_nonneg d1.1 (show 0 ≤ ([1, sc] : List Int).getD (c / 12 % 2).toNat 0 by omega)
    exact ⟨a.1, Int.le_trans a.2 (by decide), by show 0 ≤ min _ _; omega, by show min _ _ ≤ _; omega, fun m s e => by cases e⟩
  · rw [if_neg hc]
    have a := k (1 + c / 2 % 20) (by omega) (by omega)
    have d1 : 6 ≤ ([6, 40] : List Int).getD (c / 3200 % 2).toNat 0 ∧ ([6, 40] : List Int).getD (c / 3200 % 2).toNat 0 ≤ 40 := getD_in _ _ (by decide) (by simp only [List.length_cons, List.length_nil]; omega)
    generalize ([6, 40] : List Int).getD (c / 3200 % 2).toNat 0 = q at d1 ⊢
    have e0 := Int.emod_nonneg (c / 80) (show q ≠ 0 by omega)
    have e1 := Int.emod_lt_of_pos (c / 80) (show 0 < q by omega)
    exact ⟨by show 1 ≤ (1 + c / 2 % 20) * sc + c / 40 % 2; omega, by show (1 + c / 2 % 20) * sc + c / 40 % 2 ≤ _; omega, by show 0 ≤ 1 + c / 80 % q; omega, by show 1 + c / 80 % q ≤ _; omega, fun m s e => by cases e; omega⟩
/-- of one number, of two -/
def R1 (D : Int → Prop) (f : Int → Int) (vs : List V) (_ : Hp) (v : V) : Prop := ∃ c, vs = [.int c] ∧ D c ∧ v = .int (f c)
def R2' (D : Int → Int → Prop) (f : Int → Int → Int) (vs : List V) (_ : Hp) (v : V) : Prop := ∃ c d, vs = [.int c, .int d] ∧ D c d ∧ v = .int (f c d)
def RBound (vs : List V) (_ : Hp) (W : V → Hp → Prop) : Prop := ∃ c sc, vs = [.int c, .int sc] ∧ 0 ≤ c ∧ 1 ≤ sc ∧ sc ≤ 40000000 ∧ W = fun v H1 => ∃ p, v = .ref p ∧ H1 p = some (.tup (boundV c sc).tup)
section
variable {P : Program} {w : World} {K : PySem.W.Frag} {mg : Str → Option Value} {base : Heap}
theorem cal_Lscale {f : Addr} {fd : FuncData} (F : C8.Def K mg "_law_scale" s_Lscale f fd) (b : Binds K fd ["_law_cell_here"] []) : C8.Cal P w K mg base 1 "_law_scale" (spF (R1 (fun c => 0 ≤ c) scaleV)) [] := by
  refine calF F b sc_Lscale (fun vs H v h => ?_) (fun cdv A outer s H vs v E hr h => ?_)
  · obtain ⟨c, rfl, _⟩ := h
    rfl
  · obtain ⟨c, rfl, hc, rfl⟩ := h
    refine ⟨_, (pss_one (ps_ret (pe_ix ix_list (pe_lst (pa_cons pe_int (pa_cons pe_int (pa_cons pe_int (pa_cons (pe_op op_pow pe_int pe_int) (pa_cons (pe_op op_mul pe_int (pe_op op_pow pe_int pe_int)) pa_nil)))))) (pe_op op_mod (pv 0) pe_int) (fun _ _ => rfl)))), ?_⟩
    unfold scaleV
    walk_at "tk_ev"
theorem cal_Lgap {f : Addr} {fd : FuncData} (F : C8.Def K mg "_law_gap" s_Lgap f fd) (b : Binds K fd ["_law_cell_here"] []) : C8.Cal P w K mg base 1 "_law_gap" (spF (R1 (fun c => 0 ≤ c) gapV)) [] := by
  refine calF F b sc_Lgap (fun vs H v h => ?_) (fun cdv A outer s H vs v E hr h => ?_)
  · obtain ⟨c, rfl, _⟩ := h
    rfl
  · obtain ⟨c, rfl, hc, rfl⟩ := h
    refine ⟨_, (pss_one (ps_ret (pe_ix ix_list (pe_lst (pa_cons pe_int (pa_cons pe_int (pa_cons pe_int (pa_cons pe_int (pa_cons pe_int (pa_cons pe_int (pa_cons (pe_op op_mod (pe_op op_fdiv (pv 0) pe_int) pe_int) (pa_cons (pe_op op_mod (pe_op op_fdiv (pv 0) pe_int) pe_int) (pa_cons pe_int (pa_cons (pe_op op_mod (pe_op op_fdiv (pv 0) pe_int) (pe_op op_pow pe_int pe_int)) pa_nil))))))))))) (pe_op op_mod (pv 0) pe_int) (fun _ _ => rfl)))), ?_⟩
    unfold gapV
    walk_at "tk_ev"
theorem cal_Lcost {f : Addr} {fd : FuncData} (T : Blt mg) (F : C8.Def K mg "_law_cost" s_Lcost f fd) (b : Binds K fd ["_law_cell_here", "_law_scale_here"] []) : C8.Cal P w K mg base 1 "_law_cost" (spF (R2' (fun c sc => 0 ≤ c ∧ 1 ≤ sc ∧ sc ≤ 40000000) costV)) [] := by
  refine calF F b sc_Lcost (fun vs H v h => ?_) (fun cdv A outer s H vs v E hr h => ?_)
  · obtain ⟨c, d, rfl, _⟩ := h
    rfl
  · obtain ⟨c, sc, rfl, hc, rfl⟩ := h
    refine ⟨_, (pss_cons (ps_set (i := 2) sc_Lcost.nd rfl (Or.inl rfl) (pe_ix ix_list (pe_lst (pa_cons (pe_op op_add pe_int (pe_op op_mod (pv 0) pe_int)) (pa_cons pe_int (pa_cons (pe_op op_add pe_int (pe_op op_mod (pe_op op_fdiv (pv 0) pe_int) pe_int)) pa_nil)))) (pe_op op_mod (pe_op op_fdiv (pv 0) pe_int) pe_int) (fun _ _ => rfl)))
  (pss_one (ps_ret (pe_callB (call_min2 rfl) (by rfl) T.b_min boot_min (pa_cons (pe_op op_pow pe_int pe_int) (pa_cons (pe_op op_add (pe_op op_mul (pv 2) (pv 1)) (pe_op op_mul (pe_op op_mod (pe_op op_fdiv (pv 0) pe_int) pe_int) (pe_op op_fdiv (pv 1) pe_int))) pa_nil)))))), ?_⟩
    unfold costV
    walk_at "tk_ev"
theorem cal_Lbound {f : Addr} {fd : FuncData} (T : Blt mg) (F : C8.Def K mg "_law_bound" s_Lbound f fd) (b : Binds K fd ["_law_cell_here", "_law_scale_here"] []) : C8.Cal P w K mg base 1 "_law_bound" (spW RBound) [] := by
  refine calW F b sc_Lbound (fun vs H v h => ?_) (fun cdv A outer s H vs W E hr h => ?_)
  · obtain ⟨c, d, rfl, _⟩ := h
    rfl
  · obtain ⟨c, sc, rfl, hc, h1, h2, rfl⟩ := h
    refine ⟨_, (pss_cons (ps_if (pt_cmpR op_eq (pe_op op_mod (pv 0) pe_int) pe_int (nomark _))
    (pss_cons (ps_set (i := 2) sc_Lbound.nd rfl (Or.inl rfl) (pe_op op_mul (pe_ix ix_list (pe_lst (pa_cons pe_int (pa_cons pe_int (pa_cons pe_int (pa_cons pe_int (pa_cons pe_int (pa_cons pe_int pa_nil))))))) (pe_op op_mod (pe_op op_fdiv (pv 0) pe_int) pe_int) (fun _ _ => rfl)) (pe_ix ix_list (pe_lst (pa_cons pe_int (pa_cons (pv 1) pa_nil))) (pe_op op_mod (pe_op op_fdiv (pv 0) pe_int) pe_int) (fun _ _ => rfl))))
    (pss_one (ps_ret (pe_tup (pa_cons pe_str (pa_cons (pe_op op_mul (pe_op op_add pe_int (pe_op op_mod (pe_op op_fdiv (pv 0) pe_int) pe_int)) (pv 1)) (pa_cons (pe_callB (call_min2 rfl) (by rfl) T.b_min boot_min (pa_cons (pv 2) (pa_cons (pe_op op_pow pe_int pe_int) pa_nil))) pa_nil)))))))
    pss_nil)
  (pss_one (ps_ret (pe_tup (pa_cons pe_str (pa_cons (pe_op op_add (pe_op op_mul (pe_op op_add pe_int (pe_op op_mod (pe_op op_fdiv (pv 0) pe_int) pe_int)) (pv 1)) (pe_op op_mod (pe_op op_fdiv (pv 0) pe_int) pe_int)) (pa_cons (pe_op op_add pe_int (pe_op op_mod (pe_op op_fdiv (pv 0) pe_int) (pe_ix ix_list (pe_lst (pa_cons pe_int (pa_cons pe_int pa_nil))) (pe_op op_mod (pe_op op_fdiv (pv 0) pe_int) pe_int) (fun _ _ => rfl)))) pa_nil))))))), ?_⟩
    have d2 : 1 ≤ ([1, sc] : List Int).getD (c / 12 % 2).toNat 0 ∧ ([1, sc] : List Int).getD (c / 12 % 2).toNat 0 ≤ 40000000 := getD_in _ _ (by
      intro x hx
      simp only [List.mem_cons, List.not_mem_nil, or_false] at hx
      omega) (by simp only [List.length_cons, List.length_nil]; omega)
    have d1 : 6 ≤ ([6, 40] : List Int).getD (c / 3200 % 2).toNat 0 ∧ ([6, 40] : List Int).getD (c / 3200 % 2).toNat 0 ≤ 40 := getD_in _ _ (by decide) (by simp only [List.length_cons, List.length_nil]; omega)
    apply rtw_ifseq
    · walk_at "tk_ev"
    · intro hb
      have hc2 : c % 2 = 0 := by simpa using hb
      simp only [boundV, if_pos hc2, Bd.tup]
      walk_at "tk_ev"
      apply evw_tup
      walk_at "tk_ev"
    · intro hb
      have hc2 : ¬ c % 2 = 0 := by simpa using hb
      simp only [boundV, if_neg hc2, Bd.tup]
      walk_at "tk_ev"
      apply evw_tup
      walk_at "tk_ev"
end
/-! the jar's meter -/
structure ClJM (K : PySem.W.Frag) (C : Addr) : Prop where
  cl : Cls K C
  n1 : NoAttr K C "_size"
  n2 : NoAttr K C "_flow"
  n3 : NoAttr K C "_level"
  n4 : NoAttr K C "_moment"
def fJM (s f l : Int) (m : Option Int) : List (Str × V) := [("_size", .int s), ("_flow", .int f), ("_level", .int l), ("_moment", opV m)]
structure JOk (s f l : Int) (m : Option Int) : Prop where
  f0 : 0 ≤ f
  f1 : f ≤ 1000000000
  mm : l ≠ 0 → ∃ i, m = some i
def levV (f l : Int) (m : Option Int) (t : Int) : Int := if l = 0 then 0 else max 0 (l - f * (t - m.getD 0))
def waitJ (s f l : Int) (m : Option Int) (t c : Int) : Option Int :=
  if c > s then none else if levV f l m t + c - s ≤ 0 then some 0 else if f = 0 then none else some ((levV f l m t + c - s + f - 1) / f)
def RLev (C : Addr) (vs : List V) (H : Hp) (v : V) : Prop := ∃ x dx s f l m t, vs = [.ref x, .int t] ∧ H x = some (.ins C dx (fJM s f l m)) ∧ JOk s f l m ∧ v = .int (levV f l m t)
def RCanJ (C : Addr) (vs : List V) (H : Hp) (v : V) : Prop := ∃ x dx s f l m t c, vs = [.ref x, .int t, .int c] ∧ H x = some (.ins C dx (fJM s f l m)) ∧ JOk s f l m ∧ v = .bl (decide (levV f l m t + c ≤ s))
def RWaitJ (C : Addr) (vs : List V) (H : Hp) (v : V) : Prop := ∃ x dx s f l m t c, vs = [.ref x, .int t, .int c] ∧ H x = some (.ins C dx (fJM s f l m)) ∧ JOk s f l m ∧ v = opV (waitJ s f l m t c)
def RKeptJ (C : Addr) (vs : List V) (H : Hp) (v : V) : Prop := ∃ x dx fs, vs = [.ref x] ∧ H x = some (.ins C dx fs) ∧ v = .int 0
theorem rLev {C x dx : Addr} {s f l t : Int} {m : Option Int} {H : Hp} (hx : H x = some (.ins C dx (fJM s f l m))) (j : JOk s f l m) : ∀ H1, Ex H H1 → RLev C [.ref x, .int t] H1 (.int (levV f l m t)) := fun H1 e => ⟨x, dx, s, f, l, m, t, rfl, e _ _ hx, j, rfl⟩
def spTakeJ (C : Addr) : Sp := fun vs H Q _ => ∃ x dx s f l m t c, vs = [.ref x, .int t, .int c] ∧ H x = some (.ins C dx (fJM s f l m)) ∧ JOk s f l m ∧ ∀ H1, Ex H H1 → Q .non (upd H1 x (.ins C dx (fJM s f (levV f l m t + c) (some t))))
def JInitJM (C : Addr) (as : List V) (x dx : Addr) (H : Hp) : Prop := ∃ s f, as = [.int s, .int f] ∧ H x = some (.ins C dx (fJM s f 0 none))
section
variable {P : Program} {w : World} {K : PySem.W.Frag} {mg : Str → Option Value} {base : Heap} {C : Addr}
theorem met_JarMeter__level_at {f : Addr} {fd : FuncData} (T : Blt mg) (k : ClJM K C) (me : Meth K C "_level_at" f) (F : C8.Fun K "_level_at" "JarMeter._level_at" s_JarMeter__level_at f fd) (b : Binds K fd ["self", "moment"] []) : C8.Met P w K mg base 1 C "_level_at" (spF (RLev C)) [] := by
  obtain ⟨cl, n1, n2, n3, n4⟩ := k
  refine metF cl me F b sc_JarMeter__level_at (fun vs H v h => ?_) (fun cdv A outer s H vs v E hr h => ?_)
  · obtain ⟨x, dx, s, f, l, m, t, rfl, _⟩ := h
    rfl
  · obtain ⟨x, dx, s, f, l, m, t, rfl, hx, j, rfl⟩ := h
    refine ⟨_, (pss_cons (ps_if (pt_cmpR op_eq (pe_fld (pv 0) rfl) pe_int (nomark _))
    (pss_one (ps_ret pe_int))
    pss_nil)
  (pss_one (ps_ret (pe_callB (call_max2 rfl) (by rfl) T.b_max boot_max (pa_cons pe_int (pa_cons (pe_op op_sub (pe_fld (pv 0) rfl) (pe_op op_mul (pe_fld (pv 0) rfl) (pe_op op_sub (pv 1) (pe_fld (pv 0) rfl)))) pa_nil)))))), ?_⟩
    have j0 := j.f0
    have j1 := j.f1
    apply rt_ifseq
    · walk_at "tk_ev"
    · intro hb
      have h0 : l = 0 := by simpa using hb
      unfold levV
      rw [if_pos h0]
      walk_at "tk_ev"
    · intro hb
      have h0 : ¬ l = 0 := by simpa using hb
      obtain ⟨i, rfl⟩ := j.mm h0
      unfold levV
      rw [if_neg h0]
      walk_at "tk_ev"
local macro_rules | `(tactic| walk_at "tk_R") => `(tactic| exact rLev (by assumption) (by assumption))
theorem met_JarMeter_can {f : Addr} {fd : FuncData} (k : ClJM K C) (t_JarMeter__level_at : C8.Met P w K mg base 1 C "_level_at" (spF (RLev C)) []) (me : Meth K C "can" f) (F : C8.Fun K "can" "JarMeter.can" s_JarMeter_can f fd) (b : Binds K fd ["self", "moment", "cost"] []) : C8.Met P w K mg base 2 C "can" (spF (RCanJ C)) [] := by
  obtain ⟨cl, n1, n2, n3, n4⟩ := k
  refine metF cl me F b sc_JarMeter_can (fun vs H v h => ?_) (fun cdv A outer s H vs v E hr h => ?_)
  · obtain ⟨x, dx, s, f, l, m, t, c, rfl, _⟩ := h
    rfl
  · obtain ⟨x, dx, s, f, l, m, t, c, rfl, hx, j, rfl⟩ := h
    refine ⟨_, (pss_one (ps_ret (pe_cmpR op_le (pe_op op_add (C8.pe_mt t_JarMeter__level_at hr (by decide) (pv 0) (pa_cons (pv 1) pa_nil)) (pv 2)) (pe_fld (pv 0) rfl) (nomark _)))), ?_⟩
    walk_at "tk_ev"
theorem met_JarMeter_wait {f : Addr} {fd : FuncData} (k : ClJM K C) (t_JarMeter__level_at : C8.Met P w K mg base 1 C "_level_at" (spF (RLev C)) []) (me : Meth K C "wait" f) (F : C8.Fun K "wait" "JarMeter.wait" s_JarMeter_wait f fd) (b : Binds K fd ["self", "moment", "cost"] []) : C8.Met P w K mg base 2 C "wait" (spF (RWaitJ C)) [] := by
  obtain ⟨cl, n1, n2, n3, n4⟩ := k
  refine metF cl me F b sc_JarMeter_wait (fun vs H v h => ?_) (fun cdv A outer s H vs v E hr h => ?_)
  · obtain ⟨x, dx, s, f, l, m, t, c, rfl, _⟩ := h
    rfl
  · obtain ⟨x, dx, s, f, l, m, t, c, rfl, hx, j, rfl⟩ := h
    have j0 := j.f0
    have j1 := j.f1
    refine ⟨_, (pss_cons (ps_if (pt_cmpR op_gt (pv 2) (pe_fld (pv 0) rfl) (nomark _))
    (pss_one (ps_ret pe_non))
    pss_nil)
  (pss_cons (ps_set (i := 3) sc_JarMeter_wait.nd rfl (Or.inl rfl) (pe_op op_sub (pe_op op_add (C8.pe_mt t_JarMeter__level_at hr (by decide) (pv 0) (pa_cons (pv 1) pa_nil)) (pv 2)) (pe_fld (pv 0) rfl)))
  (pss_cons (ps_if (pt_cmpR op_le (pv 3) pe_int (nomark _))
    (pss_one (ps_ret pe_int))
    pss_nil)
  (pss_cons (ps_if (pt_cmpR op_eq (pe_fld (pv 0) rfl) pe_int (nomark _))
    (pss_one (ps_ret pe_non))
    pss_nil)
  (pss_one (ps_ret (pe_op op_fdiv (pe_op op_sub (pe_op op_add (pv 3) (pe_fld (pv 0) rfl)) pe_int) (pe_fld (pv 0) rfl)))))))), ?_⟩
    unfold waitJ
    apply rt_ifseq
    · walk_at "tk_ev"
    · intro hb
      have h1 : c > s := by simpa using hb
      rw [if_pos h1]
      walk_at "tk_ev"
    · intro hb
      have h1 : ¬ c > s := by simpa using hb
      rw [if_neg h1]
      refine rt_seq (nx_asg (v := .int (levV f l m t + c - s)) (by walk_at "tk_ev")) ?_
      apply rt_ifseq
      · walk_at "tk_ev"
      · intro hb
        have h2 : levV f l m t + c - s ≤ 0 := by simpa using hb
        rw [if_pos h2]
        walk_at "tk_ev"
      · intro hb
        have h2 : ¬ levV f l m t + c - s ≤ 0 := by simpa using hb
        rw [if_neg h2]
        apply rt_ifseq
        · walk_at "tk_ev"
        · intro hb
          have h3 : f = 0 := by simpa using hb
          rw [if_pos h3]
          walk_at "tk_ev"
        · intro hb
          have h3 : ¬ f = 0 := by simpa using hb
          rw [if_neg h3]
          walk_at "tk_ev"
theorem met_JarMeter_kept {f : Addr} {fd : FuncData} (k : ClJM K C) (me : Meth K C "kept" f) (F : C8.Fun K "kept" "JarMeter.kept" s_JarMeter_kept f fd) (b : Binds K fd ["self"] []) : C8.Met P w K mg base 1 C "kept" (spF (RKeptJ C)) [] := by
  refine metF k.cl me F b sc_JarMeter_kept (fun vs H v h => ?_) (fun cdv A outer s H vs v E hr h => ?_)
  · obtain ⟨x, dx, fs, rfl, _⟩ := h
    rfl
  · obtain ⟨x, dx, fs, rfl, hx, rfl⟩ := h
    refine ⟨_, (pss_one (ps_ret pe_int)), ?_⟩
    walk_at "tk_ev"
theorem met_JarMeter_take {f : Addr} {fd : FuncData} (k : ClJM K C) (t_JarMeter__level_at : C8.Met P w K mg base 1 C "_level_at" (spF (RLev C)) []) (me : Meth K C "take" f) (F : C8.Fun K "take" "JarMeter.take" s_JarMeter_take f fd) (b : Binds K fd ["self", "moment", "cost"] []) : C8.Met P w K mg base 2 C "take" (spTakeJ C) [] := by
  obtain ⟨cl, n1, n2, n3, n4⟩ := k
  refine C8.met0 cl me F b sc_JarMeter_take (fun vs H Q E h => ?_) (fun cdv A outer s H vs Q E hr h => ?_)
  · obtain ⟨x, dx, s, f, l, m, t, c, rfl, _⟩ := h
    rfl
  · obtain ⟨x, dx, s, f, l, m, t, c, rfl, hx, j, q⟩ := h
    refine ⟨_, (pss_cons (ps_fld (pv 0) (pe_op op_add (C8.pe_mt t_JarMeter__level_at hr (by decide) (pv 0) (pa_cons (pv 1) pa_nil)) (pv 2)) rfl)
  (pss_one (ps_fld (pv 0) (pv 1) rfl))), ?_⟩
    have e1 : Ev (tOp (rI0 fun i j => V.int (i + j)) (tMeth C "_level_at" (spF (RLev C)) [] C8.E0 (tVar 0) (tCons (tVar 1) tNil)) (tVar 2)) (start ["self", "moment", "cost"] [.ref x, .int t, .int c]) H (.int (levV f l m t + c)) := by walk_at "tk_ev"
    refine e1 H (Ex.refl H) _ fun H1 g1 => ?_
    refine ⟨_, rfl, x, C, dx, _, rfl, g1 _ _ hx, cl, n3, by show 4 < 1000; decide, ?_⟩
    refine ⟨_, rfl, _, rfl, x, C, dx, _, rfl, upd_same, cl, n4, by show 4 < 1000; decide, ?_⟩
    have z : upd (upd H1 x (.ins C dx (putF "_level" (.int (levV f l m t + c)) (fJM s f l m)))) x (.ins C dx (putF "_moment" (.int t) (putF "_level" (.int (levV f l m t + c)) (fJM s f l m)))) = upd H1 x (.ins C dx (fJM s f (levV f l m t + c) (some t))) := by
      funext b
      by_cases hb : b = x
      · rw [hb, upd_same, upd_same]
        rfl
      · rw [upd_ne hb, upd_ne hb, upd_ne hb]
    show Q .non (upd (upd H1 x _) x _)
    rw [z]
    exact q H1 g1
theorem mak_JarMeter {f : Addr} {fd : FuncData} (k : ClJM K C) (M : Mk K C f) (hm : mg "JarMeter" = some (.ref C)) (F : C8.Fun K "__init__" "JarMeter.__init__" s_JarMeter_init f fd) (b : Binds K fd ["self", "size", "flow"] []) : C8.Mak P w K mg base 1 "JarMeter" C (spI C (fun as => ∃ s f : Int, as = [.int s, .int f]) (JInitJM C)) [] := by
  obtain ⟨cl, n1, n2, n3, n4⟩ := k
  refine C8.mak0 M hm F b .nil sc_JarMeter_init (fun vs H Q E h => ?_) (fun cdv A outer s H vs Q E hr h => ?_)
  · obtain ⟨x, dx, as, rfl, _, ⟨s, f, rfl⟩, _⟩ := h
    rfl
  · obtain ⟨x, dx, as, rfl, hx, ⟨s, f, rfl⟩, q⟩ := h
    refine ⟨_, (pss_cons (ps_fld (pv 0) (pv 1) rfl)
  (pss_cons (ps_fld (pv 0) (pv 2) rfl)
  (pss_cons (ps_fld (pv 0) pe_int rfl)
  (pss_one (ps_fld (pv 0) pe_non rfl))))), ?_⟩
    refine ⟨_, rfl, _, rfl, x, C, dx, _, rfl, hx, cl, n1, by show 0 < 1000; decide, ?_⟩
    refine ⟨_, rfl, _, rfl, x, C, dx, _, rfl, upd_same, cl, n2, by show 1 < 1000; decide, ?_⟩
    refine ⟨_, rfl, x, C, dx, _, rfl, upd_same, cl, n3, by show 2 < 1000; decide, ?_⟩
    refine ⟨_, rfl, x, C, dx, _, rfl, upd_same, cl, n4, by show 3 < 1000; decide, ?_⟩
    refine q _ (fun b o hb e => ?_) ⟨s, f, rfl, upd_same⟩
    rw [upd_ne hb, upd_ne hb, upd_ne hb, upd_ne hb]
    exact e
end
/-! the window's meter -/
structure ClWM (K : PySem.W.Frag) (C : Addr) : Prop where
  cl : Cls K C
  n1 : NoAttr K C "_most"
  n2 : NoAttr K C "_span"
  n3 : NoAttr K C "_rows"
  n4 : NoAttr K C "_gone"
  n5 : NoAttr K C "_total"
def fWM (m s : Int) (l : Addr) (g t : Int) : List (Str × V) := [("_most", .int m), ("_span", .int s), ("_rows", .ref l), ("_gone", .int g), ("_total", .int t)]
/-- the first row whose total is no less -/
def firstGe (rs : List (Int × Int)) (due : Int) : Nat := rs.findIdx fun q => decide (due ≤ q.2)
def MonoT (rs : List (Int × Int)) : Prop := ∀ i j : Nat, i ≤ j → j < rs.length → (rs.getD i (0, 0)).2 ≤ (rs.getD j (0, 0)).2
structure WOk (g tot : Int) (rs : List (Int × Int)) : Prop where
  mono : MonoT rs
  nil : rs = [] → tot ≤ g
  last : rs ≠ [] → tot ≤ (rs.getD (rs.length - 1) (0, 0)).2
  len : rs.length ≤ 1000
def waitW (m s g tot : Int) (rs : List (Int × Int)) (t c : Int) : Option Int :=
  if c > m then none else if tot + c - m ≤ g then some 0 else some (max 0 ((rs.getD (firstGe rs (tot + c - m)) (0, 0)).1 + s - t))
theorem firstGe_lt {rs : List (Int × Int)} {due : Int} (h : rs ≠ []) (hl : due ≤ (rs.getD (rs.length - 1) (0, 0)).2) : firstGe rs due < rs.length := by
  unfold firstGe
  have hp := List.length_pos_iff.mpr h
  refine List.findIdx_lt_length_of_exists ⟨rs[rs.length - 1], List.getElem_mem _, ?_⟩
  rw [List.getD_eq_getElem?_getD, List.getElem?_eq_getElem (by omega)] at hl
  exact decide_eq_true hl
theorem firstGe_ge {rs : List (Int × Int)} {due : Int} (h : firstGe rs due < rs.length) : due ≤ (rs.getD (firstGe rs due) (0, 0)).2 := by
  have z := List.findIdx_getElem (xs := rs) (p := fun q : Int × Int => decide (due ≤ q.2)) (w := h)
  rw [List.getD_eq_getElem?_getD, List.getElem?_eq_getElem h]
  exact of_decide_eq_true z
theorem firstGe_before {rs : List (Int × Int)} {due : Int} {i : Nat} (h : i < firstGe rs due) : (rs.getD i (0, 0)).2 < due := by
  have hi : i < rs.length := Nat.lt_of_lt_of_le h List.findIdx_le_length
  have z := List.not_of_lt_findIdx (xs := rs) (p := fun q => decide (due ≤ q.2)) h
  rw [List.getD_eq_getElem?_getD, List.getElem?_eq_getElem hi]
  have z2 : ¬ due ≤ (rs[i]).2 := of_decide_eq_false z
  show (rs[i]).2 < due
  omega
def RPlace (vs : List V) (H : Hp) (v : V) : Prop := ∃ l rs due, vs = [.ref l, .int due] ∧ PairsT H l rs ∧ MonoT rs ∧ firstGe rs due < rs.length ∧ rs.length ≤ 1000 ∧ v = .int (firstGe rs due : Nat)
def RWaitW (C : Addr) (vs : List V) (H : Hp) (v : V) : Prop := ∃ x dx m s l g tot rs t c, vs = [.ref x, .int t, .int c] ∧ H x = some (.ins C dx (fWM m s l g tot)) ∧ PairsT H l rs ∧ WOk g tot rs ∧ v = opV (waitW m s g tot rs t c)
def RCanW (C : Addr) (vs : List V) (H : Hp) (v : V) : Prop := ∃ x dx m s l g tot rs t c, vs = [.ref x, .int t, .int c] ∧ H x = some (.ins C dx (fWM m s l g tot)) ∧ PairsT H l rs ∧ WOk g tot rs ∧ v = .bl (decide (waitW m s g tot rs t c = some 0))
def RKeptW (C : Addr) (vs : List V) (H : Hp) (v : V) : Prop := ∃ x dx m s l g tot rs, vs = [.ref x] ∧ H x = some (.ins C dx (fWM m s l g tot)) ∧ PairsT H l rs ∧ v = .int (rs.length : Int)
section
variable {P : Program} {w : World} {K : PySem.W.Frag} {mg : Str → Option Value} {base : Heap} {C : Addr}
local macro_rules | `(tactic| walk_at "tk_len") => `(tactic| (with_reducible apply ev_lenP))
theorem cal_place_reaching {f : Addr} {fd : FuncData} (T : Blt mg) (F : C8.Def K mg "_place_reaching" s_place_reaching f fd) (b : Binds K fd ["rows", "total"] []) : C8.Cal P w K mg base 1 "_place_reaching" (spF RPlace) [] := by
  refine calF F b sc_place_reaching (fun vs H v h => ?_) (fun cdv A outer s H vs v E hr h => ?_)
  · obtain ⟨l, rs, due, rfl, _⟩ := h
    rfl
  · obtain ⟨l, rs, due, rfl, hP, hm, hF, hn, rfl⟩ := h
    refine ⟨_, (pss_cons (ps_set (i := 2) sc_place_reaching.nd rfl (Or.inl rfl) pe_int)
  (pss_cons (ps_set (i := 3) sc_place_reaching.nd rfl (Or.inl rfl) (pe_op op_sub (pe_callB call_len_seq (by rfl) T.b_len boot_len (pa_cons (pv 0) pa_nil)) pe_int))
  (pss_cons (ps_while PassesOwn.never (pt_cmpR op_lt (pv 2) (pv 3) (nomark _))
    (pss_cons (ps_set (i := 4) sc_place_reaching.nd rfl (Or.inl rfl) (pe_op op_fdiv (pe_op op_add (pv 2) (pv 3)) pe_int))
    (pss_one (ps_if (pt_cmpR op_lt (pe_ix ix_tup (pe_ix ix_list (pv 0) (pv 4) (fun _ _ => rfl)) pe_int (fun _ _ => rfl)) (pv 1) (nomark _))
      (pss_one (ps_set (i := 2) sc_place_reaching.nd rfl (Or.inl rfl) (pe_op op_add (pv 4) pe_int)))
      (pss_one (ps_set (i := 3) sc_place_reaching.nd rfl (Or.inl rfl) (pv 4)))))))
  (pss_one (ps_ret (pv 2)))))), ?_⟩
    have ge := firstGe_ge hF
    refine rt_seq (nx_asg (v := .int ((0 : Nat) : Int)) (by walk_at "tk_ev")) ?_
    refine rt_seq (nx_asg (v := .int ((rs.length : Int) - 1)) (by walk_at "tk_ev")) ?_
    refine rt_seqP (P := fun σ => ∃ (lo : Nat) (mid : Option V), σ = [some (.ref l), some (.int due), some (.int (lo : Int)), some (.int (lo : Int)), mid] ∧ lo = firstGe rs due) (nxp_while (fun σ => ∃ (lo hi : Nat) (mid : Option V), σ = [some (.ref l), some (.int due), some (.int (lo : Int)), some (.int (hi : Int)), mid] ∧ lo ≤ firstGe rs due ∧ firstGe rs due ≤ hi ∧ hi < rs.length)
      (fun σ => match σ with
        | [_, _, some (.int lo), some (.int hi), _] => (hi - lo).toNat
        | _ => 0) ?_ ?_) ?_
    · refine ⟨0, rs.length - 1, none, ?_, Nat.zero_le _, by omega, by omega⟩
      rw [show (((rs.length - 1 : Nat)) : Int) = (rs.length : Int) - 1 by omega]
      rfl
    · rintro σ ⟨lo, hi, mid, rfl, h1, h2, h3⟩
      refine ⟨decide ((lo : Int) < (hi : Int)), by walk_at "tk_ev", fun hb => ?_, fun hb => ?_⟩
      · have hlt : (lo : Int) < (hi : Int) := of_decide_eq_true hb
        have em : ((lo : Int) + (hi : Int)) / 2 = (((lo + hi) / 2 : Nat) : Int) := by omega
        refine nxp_seqP (nxp_of (nx_asg (v := .int (((lo + hi) / 2 : Nat) : Int)) ?_) (P := fun σ => σ = [some (.ref l), some (.int due), some (.int (lo : Int)), some (.int (hi : Int)), some (.int (((lo + hi) / 2 : Nat) : Int))]) rfl) ?_
        · rw [← em]
          walk_at "tk_ev"
        · rintro σ rfl
          have e2 : rs[(((lo + hi) / 2 : Nat) : Int).toNat]? = some (rs.getD ((lo + hi) / 2) (0, 0)) := by
            rw [Int.toNat_natCast]
            exact getD_some (by omega)
          refine nxp_if (b := decide ((rs.getD ((lo + hi) / 2) (0, 0)).2 < due)) ?_ (fun hc => ?_) (fun hc => ?_)
          · exact et_test (ev_op (ev_pair1 (ev_var rfl) (ev_var rfl) hP (by omega) e2) (ev_var rfl) rv_I0)
          · have hd := of_decide_eq_true hc
            have hf : (lo + hi) / 2 < firstGe rs due := by
              refine Nat.lt_of_not_le fun hle => ?_
              have := hm _ _ hle (show (lo + hi) / 2 < rs.length by omega)
              omega
            refine nxp_of (nx_asg (v := .int (((lo + hi) / 2 + 1 : Nat) : Int)) ?_) ⟨⟨(lo + hi) / 2 + 1, hi, _, rfl, by omega, h2, h3⟩, ?_⟩
            · rw [Int.natCast_add]
              walk_at "tk_ev"
            · show ((hi : Int) - (((lo + hi) / 2 + 1 : Nat) : Int)).toNat < ((hi : Int) - (lo : Int)).toNat
              omega
          · have hd := of_decide_eq_false hc
            have hf : firstGe rs due ≤ (lo + hi) / 2 := by
              refine Nat.le_of_not_lt fun hle => ?_
              have := firstGe_before hle
              omega
            refine nxp_of (nx_asg (v := .int (((lo + hi) / 2 : Nat) : Int)) ?_) ⟨⟨lo, (lo + hi) / 2, _, rfl, h1, hf, by omega⟩, ?_⟩
            · walk_at "tk_ev"
            · show ((((lo + hi) / 2 : Nat) : Int) - (lo : Int)).toNat < ((hi : Int) - (lo : Int)).toNat
              omega
      · have hge : ¬ (lo : Int) < (hi : Int) := of_decide_eq_false hb
        obtain rfl : lo = hi := by omega
        exact ⟨lo, mid, rfl, by omega⟩
    · rintro σ ⟨lo, mid, rfl, rfl⟩
      walk_at "tk_ev"
theorem met_WindowMeter_wait {f : Addr} {fd : FuncData} (T : Blt mg) (k : ClWM K C) (c_place_reaching : C8.Cal P w K mg base 1 "_place_reaching" (spF RPlace) []) (me : Meth K C "wait" f) (F : C8.Fun K "wait" "WindowMeter.wait" s_WindowMeter_wait f fd) (b : Binds K fd ["self", "moment", "cost"] []) : C8.Met P w K mg base 2 C "wait" (spF (RWaitW C)) [] := by
  obtain ⟨cl, n1, n2, n3, n4, n5⟩ := k
  refine metF cl me F b sc_WindowMeter_wait (fun vs H v h => ?_) (fun cdv A outer s H vs v E hr h => ?_)
  · obtain ⟨x, dx, m, s, l, g, tot, rs, t, c, rfl, _⟩ := h
    rfl
  · obtain ⟨x, dx, m, s, l, g, tot, rs, t, c, rfl, hx, hP, ok, rfl⟩ := h
    refine ⟨_, (pss_cons (ps_if (pt_cmpR op_gt (pv 2) (pe_fld (pv 0) rfl) (nomark _))
    (pss_one (ps_ret pe_non))
    pss_nil)
  (pss_cons (ps_set (i := 3) sc_WindowMeter_wait.nd rfl (Or.inl rfl) (pe_op op_sub (pe_op op_add (pe_fld (pv 0) rfl) (pv 2)) (pe_fld (pv 0) rfl)))
  (pss_cons (ps_if (pt_cmpR op_le (pv 3) (pe_fld (pv 0) rfl) (nomark _))
    (pss_one (ps_ret pe_int))
    pss_nil)
  (pss_cons (ps_set (i := 4) sc_WindowMeter_wait.nd rfl (Or.inl rfl) (pe_ix ix_tup (pe_ix ix_list (pe_fld (pv 0) rfl) (C8.pe_c c_place_reaching hr (by decide) rfl (pa_cons (pe_fld (pv 0) rfl) (pa_cons (pv 3) pa_nil))) (fun _ _ => rfl)) pe_int (fun _ _ => rfl)))
  (pss_one (ps_ret (pe_callB (call_max2 rfl) (by rfl) T.b_max boot_max (pa_cons pe_int (pa_cons (pe_op op_sub (pe_op op_add (pv 4) (pe_fld (pv 0) rfl)) (pv 1)) pa_nil))))))))), ?_⟩
    unfold waitW
    apply rt_ifseq
    · walk_at "tk_ev"
    · intro hb
      have h1 : c > m := by simpa using hb
      rw [if_pos h1]
      walk_at "tk_ev"
    · intro hb
      have h1 : ¬ c > m := by simpa using hb
      rw [if_neg h1]
      refine rt_seq (nx_asg (v := .int (tot + c - m)) (by walk_at "tk_ev")) ?_
      apply rt_ifseq
      · walk_at "tk_ev"
      · intro hb
        have h2 : tot + c - m ≤ g := by simpa using hb
        rw [if_pos h2]
        walk_at "tk_ev"
      · intro hb
        have h2 : ¬ tot + c - m ≤ g := by simpa using hb
        rw [if_neg h2]
        have hne : rs ≠ [] := fun z => by
          have := ok.nil z
          omega
        have hlt : firstGe rs (tot + c - m) < rs.length := firstGe_lt hne (by
          have := ok.last hne
          omega)
        have hR : ∀ H1, Ex H H1 → RPlace [.ref l, .int (tot + c - m)] H1 (.int (firstGe rs (tot + c - m) : Nat)) := fun H1 e => ⟨l, rs, _, rfl, hP.mono e, ok.mono, hlt, ok.len, rfl⟩
        refine rt_seq (nx_asg (v := .int (rs.getD (firstGe rs (tot + c - m)) (0, 0)).1) ?_) ?_
        · refine ev_pair0 (i := (firstGe rs (tot + c - m) : Nat)) (by walk_at "tk_ev") (ev_callF (by walk_at "tk_ev") hR) hP (by omega) ?_
          rw [Int.toNat_natCast]
          exact getD_some hlt
        · show Rt _ _ _ (.int (max 0 ((rs.getD (firstGe rs (tot + c - m)) (0, 0)).1 + s - t)))
          walk_at "tk_ev"
theorem met_WindowMeter_can {f : Addr} {fd : FuncData} (k : ClWM K C) (t_WindowMeter_wait : C8.Met P w K mg base 2 C "wait" (spF (RWaitW C)) []) (me : Meth K C "can" f) (F : C8.Fun K "can" "WindowMeter.can" s_WindowMeter_can f fd) (b : Binds K fd ["self", "moment", "cost"] []) : C8.Met P w K mg base 3 C "can" (spF (RCanW C)) [] := by
  obtain ⟨cl, n1, n2, n3, n4, n5⟩ := k
  refine metF cl me F b sc_WindowMeter_can (fun vs H v h => ?_) (fun cdv A outer s H vs v E hr h => ?_)
  · obtain ⟨x, dx, m, s, l, g, tot, rs, t, c, rfl, _⟩ := h
    rfl
  · obtain ⟨x, dx, m, s, l, g, tot, rs, t, c, rfl, hx, hP, ok, rfl⟩ := h
    refine ⟨_, (pss_one (ps_ret (pe_cmpR op_eq (C8.pe_mt t_WindowMeter_wait hr (by decide) (pv 0) (pa_cons (pv 1) (pa_cons (pv 2) pa_nil))) pe_int (nomark _)))), ?_⟩
    have hR : ∀ H1, Ex H H1 → RWaitW C [.ref x, .int t, .int c] H1 (opV (waitW m s g tot rs t c)) := fun H1 e => ⟨x, dx, m, s, l, g, tot, rs, t, c, rfl, e _ _ hx, hP.mono e, ok, rfl⟩
    have ew := ev_methF (σ := start ["self", "moment", "cost"] [.ref x, .int t, .int c]) (H := H) (E := C8.E0) (m := "wait") (ev_var (i := 0) rfl) hx rfl (ea_cons (ev_var (i := 1) rfl) (ea_cons (ev_var (i := 2) rfl) ea_nil)) hR
    refine rt_ret (ev_is (ev_op ew ev_c (rv_eq ?_)) ?_)
    · cases waitW m s g tot rs t c <;> rfl
    · cases waitW m s g tot rs t c with
      | none => rfl
      | some i => exact congrArg V.bl (decide_eq_decide.mpr ⟨fun h => by cases h; rfl, fun h => by cases h; rfl⟩)
theorem met_WindowMeter_kept {f : Addr} {fd : FuncData} (T : Blt mg) (k : ClWM K C) (me : Meth K C "kept" f) (F : C8.Fun K "kept" "WindowMeter.kept" s_WindowMeter_kept f fd) (b : Binds K fd ["self"] []) : C8.Met P w K mg base 1 C "kept" (spF (RKeptW C)) [] := by
  obtain ⟨cl, n1, n2, n3, n4, n5⟩ := k
  refine metF cl me F b sc_WindowMeter_kept (fun vs H v h => ?_) (fun cdv A outer s H vs v E hr h => ?_)
  · obtain ⟨x, dx, m, s, l, g, tot, rs, rfl, _⟩ := h
    rfl
  · obtain ⟨x, dx, m, s, l, g, tot, rs, rfl, hx, hP, rfl⟩ := h
    refine ⟨_, (pss_one (ps_ret (pe_callB call_len_seq (by rfl) T.b_len boot_len (pa_cons (pe_fld (pv 0) rfl) pa_nil)))), ?_⟩
    walk_at "tk_ev"
/-- how many rows ahead are not behind lim -/
def oldN (rs : List (Int × Int)) (lim : Int) : Nat := (rs.takeWhile fun q => decide (q.1 ≤ lim)).length
theorem oldN_le (rs : List (Int × Int)) (lim : Int) : oldN rs lim ≤ rs.length := by
  induction rs with
  | nil => exact Nat.le_refl _
  | cons q rs ih =>
    unfold oldN at ih ⊢
    rw [List.takeWhile_cons]
    split
    · rw [List.length_cons, List.length_cons]; omega
    · simp
theorem oldN_in : ∀ (rs : List (Int × Int)) (lim : Int) (i : Nat), i < oldN rs lim → (rs.getD i (0, 0)).1 ≤ lim
  | [], _, _, h => absurd h (Nat.not_lt_zero _)
  | q :: rs, lim, i, h => by
    unfold oldN at h
    rw [List.takeWhile_cons] at h
    split at h
    · rename_i hq
      cases i with
      | zero => exact of_decide_eq_true hq
      | succ i => exact oldN_in rs lim i (Nat.lt_of_succ_lt_succ h)
    · exact absurd h (Nat.not_lt_zero _)
theorem oldN_out : ∀ (rs : List (Int × Int)) (lim : Int), oldN rs lim < rs.length → ¬ (rs.getD (oldN rs lim) (0, 0)).1 ≤ lim
  | [], _, h => absurd h (Nat.not_lt_zero _)
  | q :: rs, lim, h => by
    have e : oldN (q :: rs) lim = if decide (q.1 ≤ lim) = true then oldN rs lim + 1 else 0 := by
      unfold oldN
      rw [List.takeWhile_cons]
      split <;> rfl
    rw [e] at h ⊢
    by_cases hq : decide (q.1 ≤ lim) = true
    · rw [if_pos hq] at h ⊢
      exact oldN_out rs lim (Nat.lt_of_succ_lt_succ h)
    · rw [if_neg hq]
      exact fun z => hq (decide_eq_true z)
def goneV (rs : List (Int × Int)) (k : Nat) (g : Int) : Int := if k = 0 then g else (rs.getD (k - 1) (0, 0)).2
def spForget (C : Addr) : Sp := fun vs H Q _ => ∃ x dx m s l g tot rs lim, vs = [.ref x, .int lim] ∧ H x = some (.ins C dx (fWM m s l g tot)) ∧ PairsT H l rs ∧ rs.length ≤ 1000 ∧
  ∀ H2, (∀ b o, b ≠ x → b ≠ l → H b = some o → H2 b = some o) → H2 x = some (.ins C dx (fWM m s l (goneV rs (oldN rs lim) g) tot)) → PairsT H2 l (rs.drop (oldN rs lim)) → Q .non H2
theorem met_WindowMeter__forget {f : Addr} {fd : FuncData} (T : Blt mg) (k : ClWM K C) (me : Meth K C "_forget" f) (F : C8.Fun K "_forget" "WindowMeter._forget" s_WindowMeter__forget f fd) (b : Binds K fd ["self", "moment"] []) : C8.Met P w K mg base 1 C "_forget" (spForget C) [] := by
  obtain ⟨cl, n1, n2, n3, n4, n5⟩ := k
  refine C8.met0 cl me F b sc_WindowMeter__forget (fun vs H Q E h => ?_) (fun cdv A outer s H vs Q E hr h => ?_)
  · obtain ⟨x, dx, m, s, l, g, tot, rs, lim, rfl, _⟩ := h
    rfl
  · obtain ⟨x, dx, m, s, l, g, tot, rs, lim, rfl, hx, hP, hn, q⟩ := h
    refine ⟨_, (pss_cons (ps_set (i := 2) sc_WindowMeter__forget.nd rfl (Or.inl rfl) pe_int)
  (pss_cons (ps_while PassesOwn.never (PW.pt (pw_and (pt_cmpR op_lt (pv 2) (pe_callB call_len_seq (by rfl) T.b_len boot_len (pa_cons (pe_fld (pv 0) rfl) pa_nil)) (nomark _)) (pw_and1 (pt_cmpR op_le (pe_ix ix_tup (pe_ix ix_list (pe_fld (pv 0) rfl) (pv 2) (fun _ _ => rfl)) pe_int (fun _ _ => rfl)) (pv 1) (nomark _)))))
    (pss_one (ps_aug (i := 2) sc_WindowMeter__forget.nd rfl (Or.inl rfl) pe_int ip_add)))
  (pss_one (ps_if (pt_cmpR op_gt (pv 2) pe_int (nomark _))
    (pss_cons (ps_fld (pv 0) (pe_ix ix_tup (pe_ix ix_list (pe_fld (pv 0) rfl) (pe_op op_sub (pv 2) pe_int) (fun _ _ => rfl)) pe_int (fun _ _ => rfl)) rfl)
    (pss_one (ps_delTo (pe_fld (pv 0) rfl) (pv 2))))
    pss_nil)))), ?_⟩
    have le := oldN_le rs lim
    refine Nx.go (nx_asg (v := .int ((0 : Nat) : Int)) (by walk_at "tk_ev")) fun H1 e1 => ?_
    replace hx := e1 _ _ hx
    have hP1 := hP.mono e1
    refine Nx.go (nx_while (oldN rs lim) (fun i => [some (.ref x), some (.int lim), some (.int (i : Int))]) (fun i hi => ⟨?_, ?_⟩) ?_) fun H2 e2 => ?_
    · have hin := oldN_in rs lim i hi
      refine et_is (et_and (b := true) (et_test (ev_op (ev_var rfl) (ev_lenP (by walk_at "tk_ev") hP1) rv_I0)) fun _ => et_is (et_test (ev_op (ev_pair0 (q := rs.getD i (0, 0)) (by walk_at "tk_ev") (ev_var rfl) hP1 (by omega) (by rw [Int.toNat_natCast]; exact getD_some (by omega))) (ev_var rfl) rv_I0)) (decide_eq_true hin)) ?_
      rw [Bool.and_true]
      exact decide_eq_true (by omega)
    · have h := nx_aug (σ := [some (.ref x), some (.int lim), some (.int (i : Int))]) (H := H1) (i := 2) (f := fun i j => i + j) (te := tC (.int 1)) rfl ev_c
      rw [show (some (V.int (((i + 1 : Nat)) : Int))) = some (V.int ((i : Int) + 1)) from rfl]
      exact h
    · by_cases hlt : oldN rs lim < rs.length
      · have hout := oldN_out rs lim hlt
        refine et_is (et_and (b := false) (et_test (ev_op (ev_var rfl) (ev_lenP (by walk_at "tk_ev") hP1) rv_I0)) fun _ => et_is (et_test (ev_op (ev_pair0 (q := rs.getD (oldN rs lim) (0, 0)) (by walk_at "tk_ev") (ev_var rfl) hP1 (by omega) (by rw [Int.toNat_natCast]; exact getD_some hlt)) (ev_var rfl) rv_I0)) (decide_eq_false hout)) ?_
        rw [Bool.and_false]
      · refine et_is (et_and (a := false) (b := true) (et_is (et_test (ev_op (ev_var rfl) (ev_lenP (by walk_at "tk_ev") hP1) rv_I0)) (decide_eq_false (by omega))) fun z => by cases z) ?_
        rfl
    · replace hx := e2 _ _ hx
      have hP2 := hP1.mono e2
      refine s_when (b := decide (0 < (oldN rs lim : Int))) (et_test (ev_op (ev_var rfl) ev_c rv_I0)) (fun hb H3 e3 => ?_) (fun hb H3 e3 => ?_)
      · have hk : 0 < (oldN rs lim : Int) := of_decide_eq_true hb
        replace hx := e3 _ _ hx
        have hP3 := hP2.mono e3
        have hge : (rs.getD (oldN rs lim - 1) (0, 0)).2 = goneV rs (oldN rs lim) g := by
          unfold goneV
          rw [if_neg (by omega)]
        have hidx : (((oldN rs lim : Int)) - 1).toNat = oldN rs lim - 1 := by omega
        refine s_fldst (y := .int (goneV rs (oldN rs lim) g)) ?_ (ev_var rfl) hx cl n4 (by show 5 < 1000; decide) fun H4 e4 => ?_
        · rw [← hge]
          refine ev_pair1 (q := rs.getD (oldN rs lim - 1) (0, 0)) (by walk_at "tk_ev") (by walk_at "tk_ev") hP3 (by omega) ?_
          rw [hidx]
          exact getD_some (by omega)
        · obtain ⟨ps, hl, hps⟩ := hP3.mono e4
          have hlx : l ≠ x := ne_of hl (e4 _ _ hx) (by intro z; cases z)
          have hpl := hps.len
          refine ⟨_, rfl, x, C, dx, _, _, rfl, upd_same, cl, n3, rfl, _, rfl, _, rfl, l, ps.map V.ref, oldN rs lim, rfl, rfl, ?_, by rw [List.length_map]; omega, ?_⟩
          · rw [upd_ne hlx]
            exact hl
          · refine q _ (fun b o h1 h2 hb => ?_) ?_ ⟨ps.drop (oldN rs lim), ?_, ?_⟩
            · rw [upd_ne h2, upd_ne h1]
              exact e4 _ _ (e3 _ _ (e2 _ _ (e1 _ _ hb)))
            · rw [upd_ne hlx.symm, upd_same]
              rfl
            · rw [upd_same, List.map_drop]
            · refine Prs.upd (Prs.upd (hps.drop _) fun xs z => ?_) fun xs z => ?_
              · rw [e4 _ _ hx] at z
                cases z
              · rw [upd_ne hlx, hl] at z
                cases z
      · have hk : oldN rs lim = 0 := by
          have := of_decide_eq_false hb
          omega
        refine q H3 (fun b o _ _ hb => e3 _ _ (e2 _ _ (e1 _ _ hb))) ?_ ?_
        · rw [hk]
          exact e3 _ _ hx
        · rw [hk]
          exact hP2.mono e3
end
def spTakeW (C : Addr) : Sp := fun vs H Q _ => ∃ x dx m s l g tot rs t c, vs = [.ref x, .int t, .int c] ∧ H x = some (.ins C dx (fWM m s l g tot)) ∧ PairsT H l rs ∧ rs.length ≤ 900 ∧
  ∀ H2, (∀ b o, b ≠ x → b ≠ l → H b = some o → H2 b = some o) → H2 x = some (.ins C dx (fWM m s l (goneV rs (oldN rs (t - s)) g) (tot + c))) → PairsT H2 l (rs.drop (oldN rs (t - s)) ++ [(t, tot + c)]) → Q .non H2
def JInitWM (C : Addr) (as : List V) (x dx : Addr) (H : Hp) : Prop := ∃ m s l, as = [.int m, .int s] ∧ H x = some (.ins C dx (fWM m s l 0 0)) ∧ H l = some (.lst [])
section
variable {P : Program} {w : World} {K : PySem.W.Frag} {mg : Str → Option Value} {base : Heap} {C : Addr}
theorem met_WindowMeter_take {f : Addr} {fd : FuncData} (k : ClWM K C) (t_WindowMeter__forget : C8.Met P w K mg base 1 C "_forget" (spForget C) []) (me : Meth K C "take" f) (F : C8.Fun K "take" "WindowMeter.take" s_WindowMeter_take f fd) (b : Binds K fd ["self", "moment", "cost"] []) : C8.Met P w K mg base 2 C "take" (spTakeW C) [] := by
  obtain ⟨cl, n1, n2, n3, n4, n5⟩ := k
  refine C8.met0 cl me F b sc_WindowMeter_take (fun vs H Q E h => ?_) (fun cdv A outer s H vs Q E hr h => ?_)
  · obtain ⟨x, dx, m, s, l, g, tot, rs, t, c, rfl, _⟩ := h
    rfl
  · obtain ⟨x, dx, m, s, l, g, tot, rs, t, c, rfl, hx, hP, hn, q⟩ := h
    refine ⟨_, (pss_cons (ps_expr (C8.pe_mt t_WindowMeter__forget hr (by decide) (pv 0) (pa_cons (pe_op op_sub (pv 1) (pe_fld (pv 0) rfl)) pa_nil)))
  (pss_cons (ps_fldaug (pv 0) (pv 2) in_add)
  (pss_one (ps_expr (pe_bm PySem.F.plainAttrs_list PySem.F.slot_list_append PySem.F.type_list_append mt_append (pe_fld (pv 0) rfl) (pa_cons (pe_tup (pa_cons (pv 1) (pa_cons (pe_fld (pv 0) rfl) pa_nil))) pa_nil)))))), ?_⟩
    refine ⟨_, rfl, x, dx, _, rfl, hx, rfl, ?_⟩
    have ea : EvA (tCons (tOp (rI0 fun i j => V.int (i - j)) (tVar 1) (tFld K (tVar 0) "_span")) tNil) (start ["self", "moment", "cost"] [.ref x, .int t, .int c]) H [.int (t - s)] := by walk_at "tk_ev"
    refine ea H (Ex.refl H) _ fun H1 e1 => ?_
    refine ⟨x, dx, m, s, l, g, tot, rs, t - s, rfl, e1 _ _ hx, hP.mono e1, by omega, fun H2 k2 hx2 hP2 => ?_⟩
    refine s_fldaugst (D := { nx := _, rt := Q }) (ev_var rfl) hx2 cl n5 rfl (ev_var rfl) (by show 5 < 1000; decide) fun H3 e3 => ?_
    have hx3 : upd H3 x (.ins C dx (fWM m s l (goneV rs (oldN rs (t - s)) g) (tot + c))) x = some (.ins C dx (fWM m s l (goneV rs (oldN rs (t - s)) g) (tot + c))) := upd_same
    obtain ⟨ps, hl, hps⟩ := hP2.mono e3
    have hlx : l ≠ x := ne_of hl (e3 _ _ hx2) (by intro z; cases z)
    have hl3 : upd H3 x (.ins C dx (fWM m s l (goneV rs (oldN rs (t - s)) g) (tot + c))) l = some (.lst (ps.map V.ref)) := by rw [upd_ne hlx]; exact hl
    have hps3 : Prs (upd H3 x (.ins C dx (fWM m s l (goneV rs (oldN rs (t - s)) g) (tot + c)))) ps (rs.drop (oldN rs (t - s))) := hps.upd fun xs z => by
      rw [e3 _ _ hx2] at z
      cases z
    have hlen : ps.length ≤ 900 := by
      rw [hps.len, List.length_drop]
      omega
    refine s_appU (D := { nx := _, rt := Q }) (ys := [.int t, .int (tot + c)]) hl3 (ev_fld (ev_var rfl) hx3 cl n3 rfl) ?_ (by rw [List.length_map]; omega) fun p H4 np e4 hp => ?_
    · exact eu_tup (ea_cons (ev_var rfl) (ea_cons (ev_fld (ev_var rfl) hx3 cl n5 rfl) ea_nil)) (by simp only [List.length_cons, List.length_nil]; omega)
    · have npl : p ≠ l := fun z => by
        rw [z, hl3] at np
        cases np
      refine q _ (fun b o h1 h2 hb => ?_) ?_ ⟨ps ++ [p], ?_, ?_⟩
      · rw [upd_ne h2]
        refine e4 _ _ ?_
        rw [upd_ne h1]
        exact e3 _ _ (k2 b o h1 h2 (e1 _ _ hb))
      · rw [upd_ne hlx.symm]
        exact e4 _ _ hx3
      · rw [upd_same, List.map_append]
        rfl
      · refine Prs.upd (Prs.snoc (hps3.mono e4) hp) fun xs z => ?_
        rw [e4 _ _ hl3] at z
        cases z
theorem mak_WindowMeter {f : Addr} {fd : FuncData} (k : ClWM K C) (M : Mk K C f) (hm : mg "WindowMeter" = some (.ref C)) (F : C8.Fun K "__init__" "WindowMeter.__init__" s_WindowMeter_init f fd) (b : Binds K fd ["self", "most", "span"] []) : C8.Mak P w K mg base 1 "WindowMeter" C (spI C (fun as => ∃ s f : Int, as = [.int s, .int f]) (JInitWM C)) [] := by
  obtain ⟨cl, n1, n2, n3, n4, n5⟩ := k
  refine C8.mak0 M hm F b .nil sc_WindowMeter_init (fun vs H Q E h => ?_) (fun cdv A outer s H vs Q E hr h => ?_)
  · obtain ⟨x, dx, as, rfl, _, ⟨s, f, rfl⟩, _⟩ := h
    rfl
  · obtain ⟨x, dx, as, rfl, hx, ⟨s, f, rfl⟩, q⟩ := h
    refine ⟨_, (pss_cons (ps_fld (pv 0) (pv 1) rfl)
  (pss_cons (ps_fld (pv 0) (pv 2) rfl)
  (pss_cons (ps_fld (pv 0) (pe_lst pa_nil) rfl)
  (pss_cons (ps_fld (pv 0) pe_int rfl)
  (pss_one (ps_fld (pv 0) pe_int rfl)))))), ?_⟩
    refine ⟨_, rfl, _, rfl, x, C, dx, _, rfl, hx, cl, n1, by show 0 < 1000; decide, ?_⟩
    refine ⟨_, rfl, _, rfl, x, C, dx, _, rfl, upd_same, cl, n2, by show 1 < 1000; decide, ?_⟩
    refine ⟨by show 0 ≤ sizeLine; decide, fun l hl => ?_⟩
    have hxl : x ≠ l := fun z => by
      rw [← z, upd_same] at hl
      cases hl
    refine ⟨_, rfl, x, C, dx, _, rfl, (by rw [upd_ne hxl, upd_same]), cl, n3, by show 2 < 1000; decide, ?_⟩
    refine ⟨_, rfl, x, C, dx, _, rfl, upd_same, cl, n4, by show 3 < 1000; decide, ?_⟩
    refine ⟨_, rfl, x, C, dx, _, rfl, upd_same, cl, n5, by show 4 < 1000; decide, ?_⟩
    refine q _ (fun b o hb e => ?_) ⟨s, f, l, rfl, upd_same, ?_⟩
    · have nb : b ≠ l := fun z => by
        rw [upd_ne hxl.symm, upd_ne hxl.symm] at hl
        rw [z, hl] at e
        cases e
      rw [upd_ne hb, upd_ne hb, upd_ne hb, upd_ne nb, upd_ne hb, upd_ne hb]
      exact e
    · rw [upd_ne hxl.symm, upd_ne hxl.symm, upd_ne hxl.symm, upd_same]
end
/-! what counts as a number within limits; the bounds -/
/-- no number: None, a truth, or of a type beside int -/
def NoInt (K : PySem.W.Frag) (H : Hp) (x : V) : Prop := (∃ b, x = .bl b) ∨ ∃ n : String, (∀ H1, Ex H H1 → TyX K H1 x (.type n)) ∧ kitB n "int" = some false
theorem NoInt.mono {K : PySem.W.Frag} {H H' : Hp} {x : V} (e : Ex H H') (h : NoInt K H x) : NoInt K H' x := h.imp id fun ⟨n, h1, h2⟩ => ⟨n, fun H1 e1 => h1 H1 (e.trans e1), h2⟩
def RWithin (K : PySem.W.Frag) (vs : List V) (H : Hp) (v : V) : Prop := ∃ x lo hi, vs = [x, .int lo, .int hi] ∧ ((∃ i, x = .int i ∧ v = .bl (decide (lo ≤ i) && decide (i ≤ hi))) ∨ (NoInt K H x ∧ v = .bl false))
structure ClJar (K : PySem.W.Frag) (C : Addr) : Prop where
  cl : Cls K C
  n1 : NoAttr K C "_size"
  n2 : NoAttr K C "_flow"
structure ClWin (K : PySem.W.Frag) (C : Addr) : Prop where
  cl : Cls K C
  n1 : NoAttr K C "_most"
  n2 : NoAttr K C "_span"
def fJar (s f : Int) : List (Str × V) := [("_size", .int s), ("_flow", .int f)]
def fWin (m s : Int) : List (Str × V) := [("_most", .int m), ("_span", .int s)]
def DJar (as : List V) : Prop := ∃ s f : Int, as = [.int s, .int f] ∧ 1 ≤ s ∧ s ≤ 1000000000000000 ∧ 0 ≤ f ∧ f ≤ 1000000000
def DWin (as : List V) : Prop := ∃ m s : Int, as = [.int m, .int s] ∧ 1 ≤ m ∧ m ≤ 1000000000000000 ∧ 1 ≤ s ∧ s ≤ 1000000000000
def JJar (C : Addr) (as : List V) (x dx : Addr) (H : Hp) : Prop := ∃ s f, as = [.int s, .int f] ∧ H x = some (.ins C dx (fJar s f))
def JWin (C : Addr) (as : List V) (x dx : Addr) (H : Hp) : Prop := ∃ m s, as = [.int m, .int s] ∧ H x = some (.ins C dx (fWin m s))
theorem tyi {K : PySem.W.Frag} {H : Hp} (i : Int) : ∀ H1, Ex H H1 → TyX K H1 (.int i) (.type "int") := fun _ _ => .base (.int i)
theorem tyb {K : PySem.W.Frag} {H : Hp} (b : Bool) : ∀ H1, Ex H H1 → TyX K H1 (.bl b) (.type "bool") := fun _ _ => .base (.bl b)
theorem kii {K : PySem.W.Frag} : PySem.W.kitOne K (.type "int") (.type "int") = some true := kit_ty (by decide +kernel)
theorem kib {K : PySem.W.Frag} : PySem.W.kitOne K (.type "int") (.type "bool") = some false := kit_ty (by decide +kernel)
theorem kbi {K : PySem.W.Frag} : PySem.W.kitOne K (.type "bool") (.type "int") = some true := kit_ty (by decide +kernel)
theorem kbb {K : PySem.W.Frag} : PySem.W.kitOne K (.type "bool") (.type "bool") = some true := kit_ty (by decide +kernel)
section
variable {P : Program} {w : World} {K : PySem.W.Frag} {mg : Str → Option Value} {base : Heap} {C : Addr}
theorem cal_is_within {f : Addr} {fd : FuncData} (T : Blt mg) (F : C8.Def K mg "is_within" s_is_within f fd) (b : Binds K fd ["value", "least", "largest"] []) : C8.Cal P w K mg base 1 "is_within" (spF (RWithin K)) [] := by
  refine calF F b sc_is_within (fun vs H v h => ?_) (fun cdv A outer s H vs v E hr h => ?_)
  · obtain ⟨x, lo, hi, rfl, _⟩ := h
    rfl
  · obtain ⟨x, lo, hi, rfl, h⟩ := h
    refine ⟨_, (pss_one (ps_ret (pe_and (pe_callB call_isi (by rfl) T.b_isinstance boot_isinstance (pa_cons (pv 0) (pa_cons (pe_bltn (v := .ty "int") (by rfl) T.b_int boot_int rfl) pa_nil))) (pe_and (pe_not (pe_callB call_isi (by rfl) T.b_isinstance boot_isinstance (pa_cons (pv 0) (pa_cons (pe_bltn (v := .ty "bool") (by rfl) T.b_bool boot_bool rfl) pa_nil)))) (pe_one (pe_chain op_le op_le (pv 1) (pv 0) (pv 2))))))), ?_⟩
    rcases h with ⟨i, rfl, rfl⟩ | ⟨h, rfl⟩
    · refine rt_ret (ev_is (ev_andV (a := true) (b := decide (lo ≤ i) && decide (i ≤ hi)) (ev_isi (ev_var rfl) ev_c (.ty "int") (tyi i) kii) fun _ => ev_is (ev_andV (a := true) (b := decide (lo ≤ i) && decide (i ≤ hi)) (ev_notV (a := false) (ev_isi (ev_var rfl) ev_c (.ty "bool") (tyi i) kib)) fun _ => ev_chain (ev_var rfl) (ev_var rfl) rv_I0 (fun _ => ev_var rfl) fun _ => rv_I0) (by rw [Bool.true_and])) (by rw [Bool.true_and]))
    · rcases h with ⟨q, rfl⟩ | ⟨n, hn, hk⟩
      · refine rt_ret (ev_is (ev_andV (a := true) (b := false) (ev_isi (ev_var rfl) ev_c (.ty "int") (tyb q) kbi) fun _ => ev_is (ev_andV (a := false) (b := false) (ev_notV (a := true) (ev_isi (ev_var rfl) ev_c (.ty "bool") (tyb q) kbb)) fun z => by cases z) rfl) rfl)
      · refine rt_ret (ev_andV (a := false) (b := false) (ev_isi (ev_var rfl) ev_c (.ty "int") hn (kit_ty hk)) fun z => by cases z)
theorem rWithin {H : Hp} {i lo hi : Int} {b : Bool} (h : (decide (lo ≤ i) && decide (i ≤ hi)) = b) : ∀ H1, Ex H H1 → RWithin K [.int i, .int lo, .int hi] H1 (.bl b) := fun H1 _ => ⟨.int i, lo, hi, rfl, .inl ⟨i, rfl, by rw [h]⟩⟩
end
/-! the meters' making, what is new told -/
def JInitJM2 (C : Addr) (as : List V) (x dx : Addr) (H0 H : Hp) : Prop := ∃ s f, as = [.int s, .int f] ∧ H x = some (.ins C dx (fJM s f 0 none))
def JInitWM2 (C : Addr) (as : List V) (x dx : Addr) (H0 H : Hp) : Prop := ∃ m s l, as = [.int m, .int s] ∧ H x = some (.ins C dx (fWM m s l 0 0)) ∧ H l = some (.lst []) ∧ H0 l = none
def RMetJ2 (C M : Addr) (vs : List V) (H : Hp) (W : V → Hp → Prop) : Prop := ∃ y dy s f H0, vs = [.ref y] ∧ H y = some (.ins C dy (fJar s f)) ∧ Ex H0 H ∧ W = fun v H2 => ∃ x, v = .ref x ∧ H0 x = none ∧ ∃ dx, H2 x = some (.ins M dx (fJM s f 0 none))
def RMetW2 (C M : Addr) (vs : List V) (H : Hp) (W : V → Hp → Prop) : Prop := ∃ y dy m s H0, vs = [.ref y] ∧ H y = some (.ins C dy (fWin m s)) ∧ Ex H0 H ∧ W = fun v H2 => ∃ x, v = .ref x ∧ H0 x = none ∧ ∃ dx l, H2 x = some (.ins M dx (fWM m s l 0 0)) ∧ H2 l = some (.lst []) ∧ H0 l = none
def BdAt (cJ cW : Addr) (bd : Bd) (y : Addr) (H : Hp) : Prop := match bd with
  | .jar s f => ∃ dy, H y = some (.ins cJ dy (fJar s f))
  | .win m s => ∃ dy, H y = some (.ins cW dy (fWin m s))
theorem BdAt.mono {cJ cW y : Addr} {bd : Bd} {H H' : Hp} (e : Ex H H') (h : BdAt cJ cW bd y H) : BdAt cJ cW bd y H' := by
  cases bd with
  | jar s f => exact h.imp fun d z => e _ _ z
  | win s f => exact h.imp fun d z => e _ _ z
def Bd.ok : Bd → Prop
  | .jar s f => 1 ≤ s ∧ s ≤ 1000000000000000 ∧ 0 ≤ f ∧ f ≤ 1000000000
  | .win m s => 1 ≤ m ∧ m ≤ 1000000000000000 ∧ 1 ≤ s ∧ s ≤ 1000000000000
section
variable {P : Program} {w : World} {K : PySem.W.Frag} {mg : Str → Option Value} {base : Heap} {C M cJ cW : Addr}
theorem mak_JarMeter2 {f : Addr} {fd : FuncData} (k : ClJM K C) (M : Mk K C f) (hm : mg "JarMeter" = some (.ref C)) (F : C8.Fun K "__init__" "JarMeter.__init__" s_JarMeter_init f fd) (b : Binds K fd ["self", "size", "flow"] []) : C8.Mak P w K mg base 1 "JarMeter" C (spIH C (fun as => ∃ s f : Int, as = [.int s, .int f]) (JInitJM2 C)) [] := by
  obtain ⟨cl, n1, n2, n3, n4⟩ := k
  refine C8.mak0 M hm F b .nil sc_JarMeter_init (fun vs H Q E h => ?_) (fun cdv A outer s H vs Q E hr h => ?_)
  · obtain ⟨x, dx, as, rfl, _, ⟨s, f, rfl⟩, _⟩ := h
    rfl
  · obtain ⟨x, dx, as, rfl, hx, ⟨s, f, rfl⟩, q⟩ := h
    refine ⟨_, (pss_cons (ps_fld (pv 0) (pv 1) rfl)
  (pss_cons (ps_fld (pv 0) (pv 2) rfl)
  (pss_cons (ps_fld (pv 0) pe_int rfl)
  (pss_one (ps_fld (pv 0) pe_non rfl))))), ?_⟩
    refine ⟨_, rfl, _, rfl, x, C, dx, _, rfl, hx, cl, n1, by show 0 < 1000; decide, ?_⟩
    refine ⟨_, rfl, _, rfl, x, C, dx, _, rfl, upd_same, cl, n2, by show 1 < 1000; decide, ?_⟩
    refine ⟨_, rfl, x, C, dx, _, rfl, upd_same, cl, n3, by show 2 < 1000; decide, ?_⟩
    refine ⟨_, rfl, x, C, dx, _, rfl, upd_same, cl, n4, by show 3 < 1000; decide, ?_⟩
    refine q _ (fun b o hb e => ?_) ⟨s, f, rfl, upd_same⟩
    rw [upd_ne hb, upd_ne hb, upd_ne hb, upd_ne hb]
    exact e
theorem mak_WindowMeter2 {f : Addr} {fd : FuncData} (k : ClWM K C) (M : Mk K C f) (hm : mg "WindowMeter" = some (.ref C)) (F : C8.Fun K "__init__" "WindowMeter.__init__" s_WindowMeter_init f fd) (b : Binds K fd ["self", "most", "span"] []) : C8.Mak P w K mg base 1 "WindowMeter" C (spIH C (fun as => ∃ s f : Int, as = [.int s, .int f]) (JInitWM2 C)) [] := by
  obtain ⟨cl, n1, n2, n3, n4, n5⟩ := k
  refine C8.mak0 M hm F b .nil sc_WindowMeter_init (fun vs H Q E h => ?_) (fun cdv A outer s H vs Q E hr h => ?_)
  · obtain ⟨x, dx, as, rfl, _, ⟨s, f, rfl⟩, _⟩ := h
    rfl
  · obtain ⟨x, dx, as, rfl, hx, ⟨s, f, rfl⟩, q⟩ := h
    refine ⟨_, (pss_cons (ps_fld (pv 0) (pv 1) rfl)
  (pss_cons (ps_fld (pv 0) (pv 2) rfl)
  (pss_cons (ps_fld (pv 0) (pe_lst pa_nil) rfl)
  (pss_cons (ps_fld (pv 0) pe_int rfl)
  (pss_one (ps_fld (pv 0) pe_int rfl)))))), ?_⟩
    refine ⟨_, rfl, _, rfl, x, C, dx, _, rfl, hx, cl, n1, by show 0 < 1000; decide, ?_⟩
    refine ⟨_, rfl, _, rfl, x, C, dx, _, rfl, upd_same, cl, n2, by show 1 < 1000; decide, ?_⟩
    refine ⟨by show 0 ≤ sizeLine; decide, fun l hl => ?_⟩
    have hxl : x ≠ l := fun z => by
      rw [← z, upd_same] at hl
      cases hl
    have hl0 : H l = none := by
      rw [upd_ne hxl.symm, upd_ne hxl.symm] at hl
      exact hl
    refine ⟨_, rfl, x, C, dx, _, rfl, (by rw [upd_ne hxl, upd_same]), cl, n3, by show 2 < 1000; decide, ?_⟩
    refine ⟨_, rfl, x, C, dx, _, rfl, upd_same, cl, n4, by show 3 < 1000; decide, ?_⟩
    refine ⟨_, rfl, x, C, dx, _, rfl, upd_same, cl, n5, by show 4 < 1000; decide, ?_⟩
    refine q _ (fun b o hb e => ?_) ⟨s, f, l, rfl, upd_same, ?_, hl0⟩
    · have nb : b ≠ l := fun z => by
        rw [z, hl0] at e
        cases e
      rw [upd_ne hb, upd_ne hb, upd_ne hb, upd_ne nb, upd_ne hb, upd_ne hb]
      exact e
    · rw [upd_ne hxl.symm, upd_ne hxl.symm, upd_ne hxl.symm, upd_same]
theorem met_Jar_meter2 {f : Addr} {fd : FuncData} (k : ClJar K C) (m_JarMeter : C8.Mak P w K mg base 1 "JarMeter" M (spIH M (fun as => ∃ s f : Int, as = [.int s, .int f]) (JInitJM2 M)) []) (me : Meth K C "meter" f) (F : C8.Fun K "meter" "Jar.meter" s_Jar_meter f fd) (b : Binds K fd ["self"] []) : C8.Met P w K mg base 3 C "meter" (spW (RMetJ2 C M)) [] := by
  obtain ⟨cl, n1, n2⟩ := k
  refine metW cl me F b sc_Jar_meter (fun vs H v h => ?_) (fun cdv A outer s H vs W E hr h => ?_)
  · obtain ⟨y, dy, s, f, H0, rfl, _⟩ := h
    rfl
  · obtain ⟨y, dy, s, f, H0, rfl, hy, e0, rfl⟩ := h
    refine ⟨_, (pss_one (ps_ret (C8.pe_mk m_JarMeter hr (by decide) rfl (pa_cons (pe_fld (pv 0) rfl) (pa_cons (pe_fld (pv 0) rfl) pa_nil))))), ?_⟩
    refine rtw_ret (EvW.imp (evw_makeF (vs := [.int s, .int f]) (by walk_at "tk_ev") ⟨s, f, rfl⟩) fun v H1 _ ⟨x, dx, H9, e1, nx, e9, s', f', e2, e3⟩ => ?_)
    cases e2
    exact ⟨x, e1, fresh_back e0 nx, dx, e3⟩
theorem met_Window_meter2 {f : Addr} {fd : FuncData} (k : ClWin K C) (m_WindowMeter : C8.Mak P w K mg base 1 "WindowMeter" M (spIH M (fun as => ∃ s f : Int, as = [.int s, .int f]) (JInitWM2 M)) []) (me : Meth K C "meter" f) (F : C8.Fun K "meter" "Window.meter" s_Window_meter f fd) (b : Binds K fd ["self"] []) : C8.Met P w K mg base 3 C "meter" (spW (RMetW2 C M)) [] := by
  obtain ⟨cl, n1, n2⟩ := k
  refine metW cl me F b sc_Window_meter (fun vs H v h => ?_) (fun cdv A outer s H vs W E hr h => ?_)
  · obtain ⟨y, dy, s, f, H0, rfl, _⟩ := h
    rfl
  · obtain ⟨y, dy, s, f, H0, rfl, hy, e0, rfl⟩ := h
    refine ⟨_, (pss_one (ps_ret (C8.pe_mk m_WindowMeter hr (by decide) rfl (pa_cons (pe_fld (pv 0) rfl) (pa_cons (pe_fld (pv 0) rfl) pa_nil))))), ?_⟩
    refine rtw_ret (EvW.imp (evw_makeF (vs := [.int s, .int f]) (by walk_at "tk_ev") ⟨s, f, rfl⟩) fun v H1 _ ⟨x, dx, H9, e1, nx, e9, s', f', l, e2, e3, e4, e5⟩ => ?_)
    cases e2
    exact ⟨x, e1, fresh_back e0 nx, dx, l, e3, e4, fresh_back (e0.trans e9) e5⟩
end
/-! the law's own wait: all stretches that end with the visit -/
def turnW (bd : Bd) (t : Int) (q : Int × Int) (st : Int × Int) : Option (Int × Int) :=
  if st.2 + q.2 > bd.cap then
    match bd with
    | .win _ s => some (max st.1 (q.1 + s - t), st.2 + q.2)
    | .jar m f => if f = 0 then none else some (max st.1 (q.1 + (st.2 + q.2 - m + f - 1) / f - t), st.2 + q.2)
  else some (st.1, st.2 + q.2)
def runW (bd : Bd) (t : Int) : List (Int × Int) → Int × Int → Option (Int × Int)
  | [], st => some st
  | q :: r, st => match turnW bd t q st with
    | none => none
    | some st' => runW bd t r st'
def dueV (bd : Bd) (vs : List (Int × Int)) (t c : Int) : Option Int :=
  if c > bd.cap then none else match runW bd t vs.reverse (0, c) with
    | none => none
    | some st => some st.1
theorem runW_runN (bd : Bd) (t : Int) : ∀ (r p : List (Int × Int)) (st : Int × Int), runW bd t r st = runN (fun i st => turnW bd t ((p ++ r).getD i (0, 0)) st) r.length p.length st
  | [], _, _ => rfl
  | q :: r, p, st => by
    have e0 : (p ++ q :: r).getD p.length (0, 0) = q := by
      rw [List.getD_eq_getElem?_getD, List.getElem?_append_right (Nat.le_refl _), Nat.sub_self]
      rfl
    rw [runW, List.length_cons, runN, e0]
    cases turnW bd t q st with
    | none => rfl
    | some st' =>
      have z := runW_runN bd t r (p ++ [q]) st'
      rw [List.length_append, List.append_assoc] at z
      exact z
theorem runW_eq (bd : Bd) (t : Int) (vs : List (Int × Int)) (st : Int × Int) : runW bd t vs.reverse st = runN (fun i st => turnW bd t (vs.reverse.getD i (0, 0)) st) vs.length 0 st := by
  have z := runW_runN bd t vs.reverse [] st
  rw [List.length_reverse] at z
  exact z
theorem rev_at {vs : List (Int × Int)} {i : Nat} (h : i < vs.length) : vs[vs.length - 1 - i]? = some (vs.reverse.getD i (0, 0)) := by
  rw [List.getD_eq_getElem?_getD, List.getElem?_reverse h, List.getElem?_eq_getElem (by omega)]
  rfl
/-! the mathematics of the jar: its level is the most that some stretch has beyond the flow -/
def pk (f t : Int) : List (Int × Int) → Int → Int → Int
  | [], _, best => best
  | q :: r, u, best => pk f t r (u + q.2) (max best (u + q.2 - f * (t - q.1)))
theorem pk_max (f t : Int) : ∀ (r : List (Int × Int)) (u a b : Int), pk f t r u (max a b) = max a (pk f t r u b)
  | [], _, _, _ => rfl
  | q :: r, u, a, b => by
    show pk f t r (u + q.2) (max (max a b) (u + q.2 - f * (t - q.1))) = max a (pk f t r (u + q.2) (max b (u + q.2 - f * (t - q.1))))
    rw [← pk_max f t r (u + q.2) a, show max (max a b) (u + q.2 - f * (t - q.1)) = max a (max b (u + q.2 - f * (t - q.1))) by omega]
theorem pk_ge (f t : Int) (r : List (Int × Int)) (u b : Int) : b ≤ pk f t r u b := by
  have z := pk_max f t r u b b
  rw [show max b b = b by omega] at z
  omega
theorem pk_u (f t d : Int) : ∀ (r : List (Int × Int)) (u b : Int), pk f t r (u + d) (b + d) = pk f t r u b + d
  | [], _, _ => rfl
  | q :: r, u, b => by
    show pk f t r (u + d + q.2) (max (b + d) (u + d + q.2 - f * (t - q.1))) = pk f t r (u + q.2) (max b (u + q.2 - f * (t - q.1))) + d
    rw [← pk_u f t d r, show u + d + q.2 = u + q.2 + d by omega, show max (b + d) (u + q.2 + d - f * (t - q.1)) = max b (u + q.2 - f * (t - q.1)) + d by omega]
theorem pk_t (f t t' : Int) : ∀ (r : List (Int × Int)) (u b : Int), pk f t' r u (b - f * (t' - t)) = pk f t r u b - f * (t' - t)
  | [], _, _ => rfl
  | q :: r, u, b => by
    show pk f t' r (u + q.2) (max (b - f * (t' - t)) (u + q.2 - f * (t' - q.1))) = pk f t r (u + q.2) (max b (u + q.2 - f * (t - q.1))) - f * (t' - t)
    have e : f * (t' - q.1) = f * (t - q.1) + f * (t' - t) := by rw [← Int.mul_add]; congr 1; omega
    rw [← pk_t f t t' r, show max (b - f * (t' - t)) (u + q.2 - f * (t' - q.1)) = max b (u + q.2 - f * (t - q.1)) - f * (t' - t) by omega]
/-- every moment is at most t -/
def Upto (vs : List (Int × Int)) (t : Int) : Prop := ∀ q ∈ vs, q.1 ≤ t
structure JRel (f : Int) (vs : List (Int × Int)) (l : Int) (m : Option Int) : Prop where
  lev : ∀ t, Upto vs t → levV f l m t = pk f t vs.reverse 0 0
  mm : l ≠ 0 → ∃ i, m = some i
theorem jrel_nil (f : Int) : JRel f [] 0 none := ⟨fun _ _ => rfl, fun h => absurd rfl h⟩
theorem lev_nn (f l : Int) (m : Option Int) (t : Int) : 0 ≤ levV f l m t := by
  unfold levV
  by_cases h : l = 0
  · rw [if_pos h]; exact Int.le_refl _
  · rw [if_neg h]; omega
theorem jrel_take {f l : Int} {m : Option Int} {vs : List (Int × Int)} {t c : Int} (h : JRel f vs l m) (hu : Upto vs t) (hc : 1 ≤ c) : JRel f (vs ++ [(t, c)]) (levV f l m t + c) (some t) := by
  refine ⟨fun t' hu' => ?_, fun _ => ⟨t, rfl⟩⟩
  have l0 := lev_nn f l m t
  have e0 := h.lev t hu
  have hne : ¬ levV f l m t + c = 0 := by omega
  rw [List.reverse_append]
  show levV f (levV f l m t + c) (some t) t' = pk f t' vs.reverse (0 + c) (max 0 (0 + c - f * (t' - t)))
  rw [Int.zero_add, pk_max, pk_t f t t' vs.reverse c c]
  have e1 : pk f t vs.reverse c c = pk f t vs.reverse 0 0 + c := by
    have z := pk_u f t c vs.reverse 0 0
    rw [Int.zero_add] at z
    exact z
  rw [e1, ← e0]
  generalize levV f l m t = L at *
  unfold levV
  rw [if_neg hne]
  rfl
theorem cd_mono {f x y : Int} (hf : 0 < f) (h : x ≤ y) : (x + f - 1) / f ≤ (y + f - 1) / f := Int.ediv_le_ediv hf (by omega)
theorem cd_max {f x y : Int} (hf : 0 < f) : (max x y + f - 1) / f = max ((x + f - 1) / f) ((y + f - 1) / f) := by
  rcases Int.le_total x y with h | h
  · have z := cd_mono hf h
    rw [show max x y = y by omega]
    omega
  · have z := cd_mono hf h
    rw [show max x y = x by omega]
    omega
theorem cd_low {f x : Int} (hf : 0 < f) (h : x ≤ 0) : (x + f - 1) / f ≤ 0 := by
  have z := cd_mono hf h
  have e : (0 + f - 1) / f = 0 := Int.ediv_eq_zero_of_lt (by omega) (by omega)
  omega
theorem cd_up {f x : Int} (hf : 0 < f) (h : 0 < x) : 1 ≤ (x + f - 1) / f := by
  have z := Int.ediv_le_ediv hf (show f ≤ x + f - 1 by omega)
  rw [Int.ediv_self (by omega)] at z
  exact z
theorem cd_mul {f x : Int} (hf : 0 < f) : x ≤ f * ((x + f - 1) / f) := by
  have z := Int.lt_mul_ediv_self_add (x := x + f - 1) hf
  omega
theorem cd_shift {f y d : Int} (hf : 0 < f) : (y - f * d + f - 1) / f = (y + f - 1) / f - d := by
  rw [show y - f * d + f - 1 = (y + f - 1) + f * (-d) by rw [Int.mul_neg]; omega, Int.add_mul_ediv_left _ _ (by omega)]
  omega
theorem run0 (s t : Int) : ∀ (r : List (Int × Int)) (u b : Int), b ≤ s → runW (.jar s 0) t r (0, u) = if pk 0 t r u b > s then none else some (0, u + (r.map (·.2)).sum)
  | [], u, b, h => by
    show some (0, u) = if b > s then none else some (0, u + 0)
    rw [if_neg (by omega), Int.add_zero]
  | q :: r, u, b, h => by
    show (match turnW (.jar s 0) t q (0, u) with | none => none | some st' => runW (.jar s 0) t r st') = if pk 0 t r (u + q.2) (max b (u + q.2 - 0 * (t - q.1))) > s then none else some (0, u + ((q :: r).map (·.2)).sum)
    have ez : u + q.2 - 0 * (t - q.1) = u + q.2 := by rw [Int.zero_mul, Int.sub_zero]
    rw [ez]
    unfold turnW
    by_cases hu : u + q.2 > s
    · have g := pk_ge 0 t r (u + q.2) (max b (u + q.2))
      rw [if_pos (show ((0, u) : Int × Int).2 + q.2 > (Bd.jar s 0).cap from hu), if_pos (show pk 0 t r (u + q.2) (max b (u + q.2)) > s by omega)]
      rfl
    · rw [if_neg (show ¬ ((0, u) : Int × Int).2 + q.2 > (Bd.jar s 0).cap from hu)]
      show runW (.jar s 0) t r (0, u + q.2) = _
      rw [run0 s t r (u + q.2) (max b (u + q.2)) (by omega), List.map_cons, List.sum_cons, Int.add_assoc]
theorem runP {s f t : Int} (hf : 0 < f) : ∀ (r : List (Int × Int)) (u b fd : Int), Upto r t → fd = max 0 ((b - s + f - 1) / f) → ∃ U, runW (.jar s f) t r (fd, u) = some (max 0 ((pk f t r u b - s + f - 1) / f), U)
  | [], u, b, fd, _, h => ⟨u, by rw [h]; rfl⟩
  | q :: r, u, b, fd, hq, h => by
    have hm := hq q List.mem_cons_self
    have hr : Upto r t := fun x hx => hq x (List.mem_cons_of_mem _ hx)
    have hprod : 0 ≤ f * (t - q.1) := Int.mul_nonneg (by omega) (by omega)
    have key : ∀ fd', fd' = max 0 ((max b (u + q.2 - f * (t - q.1)) - s + f - 1) / f) → turnW (.jar s f) t q (fd, u) = some (fd', u + q.2) → ∃ U, runW (.jar s f) t (q :: r) (fd, u) = some (max 0 ((pk f t (q :: r) u b - s + f - 1) / f), U) := fun fd' e1 e2 => by
      obtain ⟨U, z⟩ := runP hf r (u + q.2) (max b (u + q.2 - f * (t - q.1))) fd' hr e1
      exact ⟨U, by rw [runW, e2]; exact z⟩
    have em : max b (u + q.2 - f * (t - q.1)) - s = max (b - s) (u + q.2 - s - f * (t - q.1)) := by omega
    by_cases hu : u + q.2 > s
    · refine key (max fd (q.1 + (u + q.2 - s + f - 1) / f - t)) ?_ ?_
      · rw [em, cd_max hf, cd_shift hf, h]
        omega
      · unfold turnW
        rw [if_pos (show ((fd, u) : Int × Int).2 + q.2 > (Bd.jar s f).cap from hu)]
        show (if f = 0 then none else some (max fd (q.1 + (u + q.2 - s + f - 1) / f - t), u + q.2)) = _
        rw [if_neg (by omega)]
    · refine key fd ?_ ?_
      · rw [em, cd_max hf, h]
        have z := cd_low hf (show u + q.2 - s - f * (t - q.1) ≤ 0 by omega)
        omega
      · unfold turnW
        rw [if_neg (show ¬ ((fd, u) : Int × Int).2 + q.2 > (Bd.jar s f).cap from hu)]
theorem due_jar {s f l t c : Int} {m : Option Int} {vs : List (Int × Int)} (h : JRel f vs l m) (hu : Upto vs t) (hf : 0 ≤ f) : dueV (.jar s f) vs t c = waitJ s f l m t c := by
  unfold dueV waitJ
  by_cases hc : c > s
  · rw [if_pos (show c > (Bd.jar s f).cap from hc), if_pos hc]
  · rw [if_neg (show ¬ c > (Bd.jar s f).cap from hc), if_neg hc]
    have e1 : pk f t vs.reverse c c = levV f l m t + c := by
      have z := pk_u f t c vs.reverse 0 0
      rw [Int.zero_add, ← h.lev t hu] at z
      exact z
    have hur : Upto vs.reverse t := fun q hq => hu q (List.mem_reverse.mp hq)
    by_cases h0 : f = 0
    · subst h0
      rw [run0 s t vs.reverse c c (by omega), e1]
      by_cases hx : levV 0 l m t + c > s
      · rw [if_pos hx, if_neg (by omega), if_pos rfl]
      · rw [if_neg hx, if_pos (by omega)]
    · have hf' : 0 < f := by omega
      obtain ⟨U, z⟩ := runP (s := s) hf' vs.reverse c c 0 hur (by
        have := cd_low (f := f) (x := c - s) hf' (by omega)
        omega)
      rw [z, e1]
      show some (max 0 ((levV f l m t + c - s + f - 1) / f)) = _
      by_cases hx : levV f l m t + c - s ≤ 0
      · have := cd_low hf' hx
        rw [if_pos hx]
        congr 1
        omega
      · have := cd_up hf' (show 0 < levV f l m t + c - s by omega)
        rw [if_neg hx, if_neg h0]
        congr 1
        omega
theorem wait_can {s f l t c : Int} {m : Option Int} (hf : 0 ≤ f) : waitJ s f l m t c = some 0 ↔ levV f l m t + c ≤ s := by
  have l0 := lev_nn f l m t
  unfold waitJ
  by_cases hc : c > s
  · rw [if_pos hc]
    exact ⟨fun h => (by cases h), fun h => by omega⟩
  · rw [if_neg hc]
    by_cases hx : levV f l m t + c - s ≤ 0
    · rw [if_pos hx]
      exact ⟨fun _ => by omega, fun _ => rfl⟩
    · rw [if_neg hx]
      by_cases h0 : f = 0
      · rw [if_pos h0]
        exact ⟨fun h => (by cases h), fun h => by omega⟩
      · rw [if_neg h0]
        have := cd_up (show 0 < f by omega) (show 0 < levV f l m t + c - s by omega)
        exact ⟨fun h => by
          have := Option.some.inj h
          omega, fun h => by omega⟩
theorem wait_nn {s f l t c w : Int} {m : Option Int} (hf : 0 ≤ f) (h : waitJ s f l m t c = some w) : 0 ≤ w := by
  unfold waitJ at h
  split at h
  · cases h
  · split at h
    · cases h; omega
    · split at h
      · cases h
      · cases h
        rename_i h1 h2 h3
        have := cd_up (show 0 < f by omega) (show 0 < levV f l m t + c - s by omega)
        omega
/-- behind its wait it can -/
theorem wait_after {s f l t c w : Int} {m : Option Int} (hf : 0 ≤ f) (h : waitJ s f l m t c = some w) : waitJ s f l m (t + w) c = some 0 := by
  rw [wait_can hf]
  have hw := wait_nn hf h
  unfold waitJ at h
  split at h
  · cases h
  · rename_i hc
    split at h
    · rename_i h1
      cases h
      rw [Int.add_zero]
      omega
    · rename_i h1
      split at h
      · cases h
      · rename_i h3
        have hf' : 0 < f := by omega
        have z := cd_mul (f := f) (x := levV f l m t + c - s) hf'
        rw [Option.some.inj h] at z
        unfold levV at z h1 ⊢
        by_cases hl : l = 0
        · rw [if_pos hl] at h1
          omega
        · rw [if_neg hl] at z h1 ⊢
          have e : f * (t + w - m.getD 0) = f * (t - m.getD 0) + f * w := by rw [← Int.mul_add]; congr 1; omega
          rw [e]
          omega
/-! the mathematics of the window -/
def pre (vs : List (Int × Int)) (i : Nat) : Int := ((vs.take i).map (·.2)).sum
def tots : Int → List (Int × Int) → List (Int × Int)
  | _, [] => []
  | a, q :: r => (q.1, a + q.2) :: tots (a + q.2) r
theorem tots_len : ∀ (a : Int) (vs : List (Int × Int)), (tots a vs).length = vs.length
  | _, [] => rfl
  | a, q :: r => by rw [tots, List.length_cons, List.length_cons, tots_len]
theorem pre_zero (vs : List (Int × Int)) : pre vs 0 = 0 := rfl
theorem pre_cons (q : Int × Int) (r : List (Int × Int)) (i : Nat) : pre (q :: r) (i + 1) = q.2 + pre r i := by
  unfold pre
  rw [List.take_succ_cons, List.map_cons, List.sum_cons]
theorem tots_at : ∀ (a : Int) (vs : List (Int × Int)) (i : Nat), i < vs.length → (tots a vs).getD i (0, 0) = ((vs.getD i (0, 0)).1, a + pre vs (i + 1))
  | _, [], _, h => absurd h (Nat.not_lt_zero _)
  | a, q :: r, 0, _ => by
    show (q.1, a + q.2) = (q.1, a + pre (q :: r) 1)
    rw [pre_cons, pre_zero, Int.add_zero]
  | a, q :: r, i + 1, h => by
    show (tots (a + q.2) r).getD i (0, 0) = ((r.getD i (0, 0)).1, a + pre (q :: r) (i + 1 + 1))
    rw [tots_at (a + q.2) r i (Nat.lt_of_succ_lt_succ h), pre_cons, Int.add_assoc]
theorem tots_snoc : ∀ (a : Int) (vs : List (Int × Int)) (q : Int × Int), tots a (vs ++ [q]) = tots a vs ++ [(q.1, a + pre vs vs.length + q.2)]
  | a, [], q => by
    show [(q.1, a + q.2)] = [(q.1, a + 0 + q.2)]
    rw [Int.add_zero]
  | a, x :: r, q => by
    show (x.1, a + x.2) :: tots (a + x.2) (r ++ [q]) = (x.1, a + x.2) :: (tots (a + x.2) r ++ [_])
    rw [tots_snoc, List.length_cons, pre_cons, show a + x.2 + pre r r.length + q.2 = a + (x.2 + pre r r.length) + q.2 by omega]
theorem pre_succ : ∀ (vs : List (Int × Int)) (i : Nat), i < vs.length → pre vs (i + 1) = pre vs i + (vs.getD i (0, 0)).2
  | [], _, h => absurd h (Nat.not_lt_zero _)
  | q :: r, 0, _ => by
    rw [pre_cons, pre_zero, pre_zero]
    show q.2 + 0 = 0 + q.2
    omega
  | q :: r, i + 1, h => by
    rw [pre_cons, pre_cons, pre_succ r i (Nat.lt_of_succ_lt_succ h)]
    show q.2 + (pre r i + (r.getD i (0, 0)).2) = q.2 + pre r i + (r.getD i (0, 0)).2
    omega
theorem pre_all (vs ws : List (Int × Int)) : ∀ i, i ≤ vs.length → pre (vs ++ ws) i = pre vs i := fun i h => by
  unfold pre
  rw [List.take_append_of_le_length h]
/-- costs are at least one; moments rise -/
structure VOk (vs : List (Int × Int)) : Prop where
  cost : ∀ i, i < vs.length → 1 ≤ (vs.getD i (0, 0)).2
  rise : ∀ i j, i ≤ j → j < vs.length → (vs.getD i (0, 0)).1 ≤ (vs.getD j (0, 0)).1
theorem pre_lt {vs : List (Int × Int)} (h : VOk vs) : ∀ {i j : Nat}, i < j → j ≤ vs.length → pre vs i < pre vs j := fun {i j} hij hj => by
  induction j with
  | zero => exact absurd hij (Nat.not_lt_zero _)
  | succ j ih =>
    have hc := h.cost j hj
    rw [pre_succ vs j hj]
    by_cases e : i = j
    · subst e; omega
    · have := ih (by omega) (by omega)
      omega
theorem pre_le {vs : List (Int × Int)} (h : VOk vs) {i j : Nat} (hij : i ≤ j) (hj : j ≤ vs.length) : pre vs i ≤ pre vs j := by
  by_cases e : i = j
  · subst e; exact Int.le_refl _
  · exact Int.le_of_lt (pre_lt h (by omega) hj)
theorem runWin {m s t : Int} : ∀ (r : List (Int × Int)) (fd u : Int), ∃ F U, runW (.win m s) t r (fd, u) = some (F, U) ∧ fd ≤ F ∧
    (∀ k, k < r.length → u + pre r (k + 1) > m → (r.getD k (0, 0)).1 + s - t ≤ F) ∧ (F = fd ∨ ∃ k, k < r.length ∧ u + pre r (k + 1) > m ∧ F = (r.getD k (0, 0)).1 + s - t)
  | [], fd, u => ⟨fd, u, rfl, Int.le_refl _, fun _ h => absurd h (Nat.not_lt_zero _), .inl rfl⟩
  | q :: r, fd, u => by
    by_cases hu : u + q.2 > m
    · obtain ⟨F, U, h1, h2, h3, h4⟩ := runWin (m := m) (s := s) (t := t) r (max fd (q.1 + s - t)) (u + q.2)
      refine ⟨F, U, ?_, by omega, fun k hk hp => ?_, ?_⟩
      · rw [runW, turnW, if_pos (show ((fd, u) : Int × Int).2 + q.2 > (Bd.win m s).cap from hu)]
        exact h1
      · cases k with
        | zero =>
          show q.1 + s - t ≤ F
          omega
        | succ k =>
          rw [pre_cons] at hp
          exact h3 k (Nat.lt_of_succ_lt_succ hk) (by omega)
      · rcases h4 with h4 | ⟨k, k1, k2, k3⟩
        · rcases Int.le_total fd (q.1 + s - t) with hle | hle
          · refine .inr ⟨0, Nat.succ_pos _, ?_, ?_⟩
            · rw [pre_cons, pre_zero]
              omega
            · show F = q.1 + s - t
              omega
          · exact .inl (by omega)
        · refine .inr ⟨k + 1, Nat.succ_lt_succ k1, ?_, k3⟩
          rw [pre_cons]
          omega
    · obtain ⟨F, U, h1, h2, h3, h4⟩ := runWin (m := m) (s := s) (t := t) r fd (u + q.2)
      refine ⟨F, U, ?_, h2, fun k hk hp => ?_, ?_⟩
      · rw [runW, turnW, if_neg (show ¬ ((fd, u) : Int × Int).2 + q.2 > (Bd.win m s).cap from hu)]
        exact h1
      · cases k with
        | zero =>
          rw [pre_cons, pre_zero] at hp
          omega
        | succ k =>
          rw [pre_cons] at hp
          exact h3 k (Nat.lt_of_succ_lt_succ hk) (by omega)
      · rcases h4 with h4 | ⟨k, k1, k2, k3⟩
        · exact .inl h4
        · refine .inr ⟨k + 1, Nat.succ_lt_succ k1, ?_, k3⟩
          rw [pre_cons]
          omega
theorem sum_rev (l : List Int) : l.reverse.sum = l.sum := by
  induction l with
  | nil => rfl
  | cons a l ih =>
    rw [List.reverse_cons, List.sum_append, List.sum_cons, ih]
    simp [Int.add_comm]
theorem pre_rev (vs : List (Int × Int)) (k : Nat) (hk : k ≤ vs.length) : pre vs.reverse k = pre vs vs.length - pre vs (vs.length - k) := by
  have e1 : pre vs.reverse k = ((vs.drop (vs.length - k)).map (·.2)).sum := by
    unfold pre
    rw [List.take_reverse, List.map_reverse, sum_rev]
  have e2 : pre vs vs.length = pre vs (vs.length - k) + ((vs.drop (vs.length - k)).map (·.2)).sum := by
    unfold pre
    rw [← List.sum_append, ← List.map_append, List.take_append_drop, List.take_length]
  omega
theorem rev_getD (vs : List (Int × Int)) (k : Nat) (hk : k < vs.length) : vs.reverse.getD k (0, 0) = vs.getD (vs.length - 1 - k) (0, 0) := by
  have z := rev_at hk
  rw [getD_some (show vs.length - 1 - k < vs.length by omega)] at z
  exact (Option.some.inj z).symm
/-- the law's wait by a window -/
theorem due_win (m s : Int) (vs : List (Int × Int)) (t c : Int) (hc : ¬ c > m) : ∃ F, dueV (.win m s) vs t c = some F ∧ 0 ≤ F ∧
    (∀ i, i < vs.length → pre vs i < pre vs vs.length + c - m → (vs.getD i (0, 0)).1 + s - t ≤ F) ∧ (F = 0 ∨ ∃ i, i < vs.length ∧ pre vs i < pre vs vs.length + c - m ∧ F = (vs.getD i (0, 0)).1 + s - t) := by
  obtain ⟨F, U, h1, h2, h3, h4⟩ := runWin (m := m) (s := s) (t := t) vs.reverse 0 c
  rw [List.length_reverse] at h3 h4
  refine ⟨F, ?_, h2, fun i hi hp => ?_, ?_⟩
  · unfold dueV
    rw [if_neg (show ¬ c > (Bd.win m s).cap from hc), h1]
  · have z := h3 (vs.length - 1 - i) (by omega) (by
      rw [pre_rev vs _ (by omega), show vs.length - (vs.length - 1 - i + 1) = i by omega]
      omega)
    rw [rev_getD vs _ (by omega), show vs.length - 1 - (vs.length - 1 - i) = i by omega] at z
    exact z
  · rcases h4 with h4 | ⟨k, k1, k2, k3⟩
    · exact .inl h4
    · refine .inr ⟨vs.length - 1 - k, by omega, ?_, ?_⟩
      · rw [pre_rev vs _ (by omega), show vs.length - (k + 1) = vs.length - 1 - k by omega] at k2
        omega
      · rw [rev_getD vs k k1] at k3
        exact k3
structure WRel (s : Int) (vs : List (Int × Int)) (g tot : Int) (rs : List (Int × Int)) : Prop where
  ex : ∃ d, d ≤ vs.length ∧ rs = (tots 0 vs).drop d ∧ g = pre vs d ∧ tot = pre vs vs.length ∧ (∀ i j, i < d → j = vs.length - 1 → (vs.getD i (0, 0)).1 + s ≤ (vs.getD j (0, 0)).1) ∧ (∀ i j, d ≤ i → i < vs.length → j = vs.length - 1 → (vs.getD j (0, 0)).1 < (vs.getD i (0, 0)).1 + s)
theorem wrel_nil (s : Int) : WRel s [] 0 0 [] := ⟨0, Nat.le_refl _, rfl, rfl, rfl, fun _ _ h => absurd h (Nat.not_lt_zero _), fun _ _ _ h => absurd h (Nat.not_lt_zero _)⟩
theorem drop_getD (l : List (Int × Int)) (d i : Nat) : (l.drop d).getD i (0, 0) = l.getD (d + i) (0, 0) := by
  rw [List.getD_eq_getElem?_getD, List.getElem?_drop, ← List.getD_eq_getElem?_getD]
theorem WRel.row {s : Int} {vs : List (Int × Int)} {g tot : Int} {rs : List (Int × Int)} {d : Nat} (hrs : rs = (tots 0 vs).drop d) {i : Nat} (hi : d + i < vs.length) : rs.getD i (0, 0) = ((vs.getD (d + i) (0, 0)).1, pre vs (d + i + 1)) := by
  rw [hrs, drop_getD, tots_at 0 vs _ hi, Int.zero_add]
theorem WRel.wok {s : Int} {vs : List (Int × Int)} {g tot : Int} {rs : List (Int × Int)} (h : WRel s vs g tot rs) (hv : VOk vs) (hn : vs.length ≤ 1000) : WOk g tot rs := by
  obtain ⟨d, hd, hrs, hg, ht, _, _⟩ := h.ex
  have hl : rs.length = vs.length - d := by rw [hrs, List.length_drop, tots_len]
  refine ⟨fun i j hij hj => ?_, fun e => ?_, fun e => ?_, by omega⟩
  · rw [WRel.row hrs (s := s) (g := g) (tot := tot) (by omega), WRel.row hrs (s := s) (g := g) (tot := tot) (by omega)]
    exact pre_le hv (by omega) (by omega)
  · rw [e] at hl
    have : d = vs.length := by
      have : ([] : List (Int × Int)).length = 0 := rfl
      omega
    rw [hg, ht, this]
    exact Int.le_refl _
  · have hp := List.length_pos_iff.mpr e
    rw [WRel.row hrs (s := s) (g := g) (tot := tot) (by omega), ht, show d + (rs.length - 1) + 1 = vs.length by omega]
    exact Int.le_refl _
theorem due_win_is {m s g tot t c : Int} {vs rs : List (Int × Int)} (h : WRel s vs g tot rs) (hv : VOk vs) (hu : Upto vs t) (hc : 1 ≤ c) : dueV (.win m s) vs t c = waitW m s g tot rs t c := by
  by_cases hcm : c > m
  · unfold dueV waitW
    rw [if_pos (show c > (Bd.win m s).cap from hcm), if_pos hcm]
  · obtain ⟨F, e, f0, f1, f2⟩ := due_win m s vs t c hcm
    obtain ⟨d, hd, hrs, hg, ht, ho, _⟩ := h.ex
    have hl : rs.length = vs.length - d := by rw [hrs, List.length_drop, tots_len]
    rw [e]
    unfold waitW
    rw [if_neg hcm]
    by_cases hdue : tot + c - m ≤ g
    · rw [if_pos hdue]
      rcases f2 with f2 | ⟨i, i1, i2, i3⟩
      · rw [f2]
      · have hid : i < d := by
          refine Nat.lt_of_not_le fun hle => ?_
          have := pre_le hv hle (by omega)
          omega
        have hlast := ho i (vs.length - 1) hid rfl
        have hm := hu (vs.getD (vs.length - 1) (0, 0)) (by
          rw [List.getD_eq_getElem?_getD, List.getElem?_eq_getElem (by omega)]
          exact List.getElem_mem _)
        congr 1
        omega
    · rw [if_neg hdue]
      have ok := fun hn => h.wok hv (hn : vs.length ≤ 1000)
      have hdn : d < vs.length := by
        refine Nat.lt_of_not_le fun hle => ?_
        have : d = vs.length := by omega
        rw [this] at hg
        omega
      have hne : rs ≠ [] := fun z => by
        rw [z] at hl
        have : ([] : List (Int × Int)).length = 0 := rfl
        omega
      have hlt : firstGe rs (tot + c - m) < rs.length := firstGe_lt hne (by
        rw [WRel.row hrs (s := s) (g := g) (tot := tot) (by omega), show d + (rs.length - 1) + 1 = vs.length by omega]
        show tot + c - m ≤ pre vs vs.length
        omega)
      have hge := firstGe_ge hlt
      have hrow := WRel.row hrs (s := s) (g := g) (tot := tot) (i := firstGe rs (tot + c - m)) (by omega)
      rw [hrow] at hge ⊢
      have hbefore : pre vs (d + firstGe rs (tot + c - m)) < tot + c - m := by
        by_cases hz : firstGe rs (tot + c - m) = 0
        · rw [hz, Nat.add_zero, ← hg]
          omega
        · have hb := firstGe_before (rs := rs) (due := tot + c - m) (i := firstGe rs (tot + c - m) - 1) (by omega)
          rw [WRel.row hrs (s := s) (g := g) (tot := tot) (by omega), show d + (firstGe rs (tot + c - m) - 1) + 1 = d + firstGe rs (tot + c - m) by omega] at hb
          exact hb
      generalize firstGe rs (tot + c - m) = j at *
      have h1 := f1 (d + j) (by omega) (by omega)
      congr 1
      rcases f2 with f2 | ⟨i, i1, i2, i3⟩
      · show F = max 0 ((vs.getD (d + j) (0, 0)).1 + s - t)
        omega
      · have hij : i ≤ d + j := by
          refine Nat.le_of_not_lt fun hlt2 => ?_
          have := pre_le hv (show d + j + 1 ≤ i by omega) (by omega)
          have hge' : tot + c - m ≤ pre vs (d + j + 1) := hge
          omega
        have hr := hv.rise i (d + j) hij (by omega)
        show F = max 0 ((vs.getD (d + j) (0, 0)).1 + s - t)
        omega
theorem waitW_nn {m s g tot t c w : Int} {rs : List (Int × Int)} (h : waitW m s g tot rs t c = some w) : 0 ≤ w := by
  unfold waitW at h
  split at h
  · cases h
  · split at h <;> (cases h; omega)
theorem waitW_after {m s g tot t c w : Int} {rs : List (Int × Int)} (h : waitW m s g tot rs t c = some w) : waitW m s g tot rs (t + w) c = some 0 := by
  unfold waitW at h ⊢
  by_cases h1 : c > m
  · rw [if_pos h1] at h; cases h
  · rw [if_neg h1] at h ⊢
    by_cases h2 : tot + c - m ≤ g
    · rw [if_pos h2]
    · rw [if_neg h2] at h ⊢
      have := Option.some.inj h
      congr 1
      omega
theorem getD_snoc_lt (vs : List (Int × Int)) (q : Int × Int) {i : Nat} (h : i < vs.length) : (vs ++ [q]).getD i (0, 0) = vs.getD i (0, 0) := by
  rw [List.getD_eq_getElem?_getD, List.getD_eq_getElem?_getD, List.getElem?_append_left h]
theorem getD_snoc_eq (vs : List (Int × Int)) (q : Int × Int) : (vs ++ [q]).getD vs.length (0, 0) = q := by
  rw [List.getD_eq_getElem?_getD, List.getElem?_append_right (Nat.le_refl _), Nat.sub_self]
  rfl
theorem VOk.snoc {vs : List (Int × Int)} {t c : Int} (h : VOk vs) (hu : Upto vs t) (hc : 1 ≤ c) : VOk (vs ++ [(t, c)]) := by
  refine ⟨fun i hi => ?_, fun i j hij hj => ?_⟩
  · rw [List.length_append] at hi
    by_cases e : i = vs.length
    · subst e
      rw [getD_snoc_eq]
      exact hc
    · rw [getD_snoc_lt vs _ (by have : [(t, c)].length = 1 := rfl; omega)]
      exact h.cost i (by have : [(t, c)].length = 1 := rfl; omega)
  · rw [List.length_append] at hj
    have l1 : [(t, c)].length = 1 := rfl
    by_cases e : j = vs.length
    · subst e
      rw [getD_snoc_eq]
      by_cases e2 : i = vs.length
      · subst e2
        rw [getD_snoc_eq]
        exact Int.le_refl _
      · rw [getD_snoc_lt vs _ (by omega)]
        refine hu _ ?_
        rw [List.getD_eq_getElem?_getD, List.getElem?_eq_getElem (by omega)]
        exact List.getElem_mem _
    · rw [getD_snoc_lt vs _ (by omega), getD_snoc_lt vs _ (by omega)]
      exact h.rise i j hij (by omega)
theorem upto_snoc {vs : List (Int × Int)} {t c : Int} (h : Upto vs t) : Upto (vs ++ [(t, c)]) t := fun q hq => by
  rcases List.mem_append.mp hq with hq | hq
  · exact h q hq
  · rw [List.mem_singleton.mp hq]
    exact Int.le_refl _
theorem wrel_take {s g tot t c : Int} {vs rs : List (Int × Int)} (h : WRel s vs g tot rs) (hv : VOk vs) (hu : Upto vs t) (hs : 1 ≤ s) : WRel s (vs ++ [(t, c)]) (goneV rs (oldN rs (t - s)) g) (tot + c) (rs.drop (oldN rs (t - s)) ++ [(t, tot + c)]) := by
  obtain ⟨d, hd, hrs, hg, ht, ho, hk⟩ := h.ex
  have hl : rs.length = vs.length - d := by rw [hrs, List.length_drop, tots_len]
  have hle := oldN_le rs (t - s)
  have l1 : (vs ++ [(t, c)]).length = vs.length + 1 := by rw [List.length_append]; rfl
  refine ⟨d + oldN rs (t - s), by omega, ?_, ?_, ?_, fun i j hi hj => ?_, fun i j hi hi2 hj => ?_⟩
  · rw [tots_snoc, List.drop_append_of_le_length (by rw [tots_len]; omega), hrs, List.drop_drop, ← hrs, Int.zero_add, ht]
  · rw [pre_all _ _ _ (by omega)]
    unfold goneV
    by_cases e : oldN rs (t - s) = 0
    · rw [if_pos e, e, Nat.add_zero]
      exact hg
    · rw [if_neg e, WRel.row hrs (s := s) (g := g) (tot := tot) (by omega)]
      show pre vs (d + (oldN rs (t - s) - 1) + 1) = _
      rw [show d + (oldN rs (t - s) - 1) + 1 = d + oldN rs (t - s) by omega]
  · rw [l1, pre_succ _ _ (by omega), getD_snoc_eq, pre_all _ _ _ (Nat.le_refl _), ht]
  · rw [hj, l1, Nat.add_sub_cancel, getD_snoc_eq, getD_snoc_lt vs _ (by omega)]
    show (vs.getD i (0, 0)).1 + s ≤ t
    by_cases e : i < d
    · have z := ho i (vs.length - 1) e rfl
      have hm := hu (vs.getD (vs.length - 1) (0, 0)) (by
        rw [List.getD_eq_getElem?_getD, List.getElem?_eq_getElem (by omega)]
        exact List.getElem_mem _)
      omega
    · have z := oldN_in rs (t - s) (i - d) (by omega)
      rw [WRel.row hrs (s := s) (g := g) (tot := tot) (by omega), show d + (i - d) = i by omega] at z
      have z : (vs.getD i (0, 0)).1 ≤ t - s := z
      omega
  · rw [hj, l1, Nat.add_sub_cancel, getD_snoc_eq]
    show t < _
    by_cases e : i = vs.length
    · rw [e, getD_snoc_eq]
      show t < t + s
      omega
    · rw [getD_snoc_lt vs _ (by omega)]
      have z := oldN_out rs (t - s) (by omega)
      rw [WRel.row hrs (s := s) (g := g) (tot := tot) (by omega)] at z
      have z : ¬ (vs.getD (d + oldN rs (t - s)) (0, 0)).1 ≤ t - s := z
      have r := hv.rise (d + oldN rs (t - s)) i hi (by omega)
      omega
theorem wrel_kept {s g tot : Int} {vs rs : List (Int × Int)} (h : WRel s vs g tot rs) : rs.length ≤ (vs.filter fun q => decide (q.1 > (vs.getD (vs.length - 1) (0, 0)).1 - s)).length := by
  obtain ⟨d, hd, hrs, hg, ht, ho, hk⟩ := h.ex
  have hl : rs.length = (vs.drop d).length := by rw [hrs, List.length_drop, tots_len, List.length_drop]
  have e : ∀ L, (vs.drop d).filter (fun q => decide (q.1 > L)) = vs.drop d → (vs.drop d).length ≤ (vs.filter fun q => decide (q.1 > L)).length := fun L e => by
    have z : (vs.filter fun q => decide (q.1 > L)) = ((vs.take d).filter fun q => decide (q.1 > L)) ++ ((vs.drop d).filter fun q => decide (q.1 > L)) := by rw [← List.filter_append, List.take_append_drop]
    rw [z, e, List.length_append]
    omega
  rw [hl]
  refine e _ (List.filter_eq_self.mpr fun q hq => ?_)
  obtain ⟨i, hi⟩ := List.getElem?_of_mem hq
  rw [List.getElem?_drop] at hi
  obtain ⟨hlt, he⟩ := List.getElem?_eq_some_iff.mp hi
  have z := hk (d + i) (vs.length - 1) (by omega) hlt rfl
  rw [List.getD_eq_getElem?_getD (l := vs) (i := d + i), hi] at z
  have z : _ < q.1 + s := z
  exact decide_eq_true (by omega)
/-! the law's bound made -/
def RMade (cJ cW : Addr) (vs : List V) (H : Hp) (W : V → Hp → Prop) : Prop := ∃ p bd, vs = [.ref p] ∧ H p = some (.tup (Bd.tup bd)) ∧ bd.ok ∧ W = fun v H2 => ∃ y, v = .ref y ∧ BdAt cJ cW bd y H2
theorem dj : decide (V.str "jar" = V.str "jar") = true := by decide +kernel
theorem dw : decide (V.str "window" = V.str "jar") = false := by decide +kernel
section
variable {P : Program} {w : World} {K : PySem.W.Frag} {mg : Str → Option Value} {base : Heap} {C M cJ cW : Addr}
theorem cal_Lmade {f : Addr} {fd : FuncData} (m_Jar : C8.Mak P w K mg base 2 "Jar" cJ (spI cJ DJar (JJar cJ)) []) (m_Window : C8.Mak P w K mg base 2 "Window" cW (spI cW DWin (JWin cW)) []) (F : C8.Def K mg "_law_made" s_Lmade f fd) (b : Binds K fd ["_law_bound_here"] []) : C8.Cal P w K mg base 4 "_law_made" (spW (RMade cJ cW)) [] := by
  refine calW F b sc_Lmade (fun vs H v h => ?_) (fun cdv A outer s H vs W E hr h => ?_)
  · obtain ⟨p, bd, rfl, _⟩ := h
    rfl
  · obtain ⟨p, bd, rfl, hp, ok, rfl⟩ := h
    refine ⟨_, (pss_cons (ps_if (pt_cmpR op_eq (pe_ix ix_tup (pv 0) pe_int (fun _ _ => rfl)) pe_str (nomark _))
    (pss_one (ps_ret (C8.pe_mk m_Jar hr (by decide) rfl (pa_cons (pe_ix ix_tup (pv 0) pe_int (fun _ _ => rfl)) (pa_cons (pe_ix ix_tup (pv 0) pe_int (fun _ _ => rfl)) pa_nil)))))
    pss_nil)
  (pss_one (ps_ret (C8.pe_mk m_Window hr (by decide) rfl (pa_cons (pe_ix ix_tup (pv 0) pe_int (fun _ _ => rfl)) (pa_cons (pe_ix ix_tup (pv 0) pe_int (fun _ _ => rfl)) pa_nil)))))), ?_⟩
    have hT : SqT K H p bd.tup := st_of hp
    cases bd with
    | jar s f =>
      have e1 : atI (Bd.tup (.jar s f)) 1 = some (.int s) := rfl
      have e2 : atI (Bd.tup (.jar s f)) 2 = some (.int f) := rfl
      refine rtw_ifseq (b := true) (et_is (et_test (ev_op (ev_ixT (v := .str "jar") (ev_var rfl) ev_c hT rfl) ev_c (rv_eq rfl))) dj) (fun _ => ?_) fun z => by cases z
      refine rtw_ret (EvW.imp (evw_make (vs := [.int s, .int f]) (ea_cons (ev_ixT (ev_var rfl) ev_c hT e1) (ea_cons (ev_ixT (ev_var rfl) ev_c hT e2) ea_nil)) ⟨s, f, rfl, ok⟩) fun v H1 _ ⟨y, dy, w1, s', f', w2, w3⟩ => ?_)
      cases w2
      exact ⟨y, w1, dy, w3⟩
    | win s f =>
      have e1 : atI (Bd.tup (.win s f)) 1 = some (.int s) := rfl
      have e2 : atI (Bd.tup (.win s f)) 2 = some (.int f) := rfl
      refine rtw_ifseq (b := false) (et_is (et_test (ev_op (ev_ixT (v := .str "window") (ev_var rfl) ev_c hT rfl) ev_c (rv_eq rfl))) dw) (fun z => by cases z) fun _ => ?_
      refine rtw_ret (EvW.imp (evw_make (vs := [.int s, .int f]) (ea_cons (ev_ixT (ev_var rfl) ev_c hT e1) (ea_cons (ev_ixT (ev_var rfl) ev_c hT e2) ea_nil)) ⟨s, f, rfl, ok⟩) fun v H1 _ ⟨y, dy, w1, s', f', w2, w3⟩ => ?_)
      cases w2
      exact ⟨y, w1, dy, w3⟩
end
/-! all meters of some bounds -/
abbrev Mt := Addr × Option Addr
abbrev VS := List (Int × Int)
def foot (m : Mt) : List Addr := m.1 :: m.2.toList
def MtS (cJM cWM : Addr) (bd : Bd) (vs : VS) (m : Mt) (H : Hp) : Prop := match bd with
  | .jar s f => m.2 = none ∧ ∃ dx lv mo, H m.1 = some (.ins cJM dx (fJM s f lv mo)) ∧ JRel f vs lv mo
  | .win mo s => ∃ l dx g tot rs, m.2 = some l ∧ H m.1 = some (.ins cWM dx (fWM mo s l g tot)) ∧ PairsT H l rs ∧ WRel s vs g tot rs
section
variable {cJM cWM : Addr} {bd : Bd} {vs : VS} {m : Mt} {H H' : Hp}
theorem MtS.mono (e : Ex H H') (h : MtS cJM cWM bd vs m H) : MtS cJM cWM bd vs m H' := by
  cases bd with
  | jar s f =>
    obtain ⟨h1, dx, lv, mo, h2, h3⟩ := h
    exact ⟨h1, dx, lv, mo, e _ _ h2, h3⟩
  | win mo s =>
    obtain ⟨l, dx, g, tot, rs, h1, h2, h3, h4⟩ := h
    exact ⟨l, dx, g, tot, rs, h1, e _ _ h2, h3.mono e, h4⟩
theorem MtS.nt (h : MtS cJM cWM bd vs m H) : ∀ b ∈ foot m, ∀ xs, H b ≠ some (.tup xs) := by
  obtain ⟨x, ol⟩ := m
  cases bd with
  | jar s f =>
    obtain ⟨h1, dx, lv, mo, h2, h3⟩ := h
    obtain rfl : ol = none := h1
    intro b hb xs z
    obtain rfl : b = x := by simpa [foot] using hb
    rw [h2] at z
    cases z
  | win mo s =>
    obtain ⟨l, dx, g, tot, rs, h1, h2, ⟨ps, h3, _⟩, h4⟩ := h
    obtain rfl : ol = some l := h1
    intro b hb xs z
    have hb : b = x ∨ b = l := by simpa [foot] using hb
    rcases hb with rfl | rfl
    · rw [h2] at z
      cases z
    · rw [h3] at z
      cases z
theorem MtS.keep {fo : List Addr} (h : MtS cJM cWM bd vs m H) (k : ∀ b o, b ∉ fo → H b = some o → H' b = some o) (d : ∀ b ∈ foot m, b ∉ fo) (nt : ∀ b ∈ fo, ∀ xs, H b ≠ some (.tup xs)) : MtS cJM cWM bd vs m H' := by
  obtain ⟨x, ol⟩ := m
  cases bd with
  | jar s f =>
    obtain ⟨h1, dx, lv, mo, h2, h3⟩ := h
    exact ⟨h1, dx, lv, mo, k _ _ (d _ (by simp [foot])) h2, h3⟩
  | win mo s =>
    obtain ⟨l, dx, g, tot, rs, h1, h2, ⟨ps, h3, h5⟩, h4⟩ := h
    obtain rfl : ol = some l := h1
    exact ⟨l, dx, g, tot, rs, rfl, k _ _ (d _ (by simp [foot])) h2, ⟨ps, k _ _ (d _ (by simp [foot])) h3, by
      have kk : ∀ b xs, H b = some (.tup xs) → H' b = some (.tup xs) := fun b xs e => k b _ (fun z => nt b z xs e) e
      clear h3 h4 h2
      induction h5 with
      | nil => exact .nil
      | cons a _ ih => exact .cons (kk _ _ a) ih⟩, h4⟩
theorem MtS.cls (h : MtS cJM cWM bd vs m H) : ∃ C dx fs, H m.1 = some (.ins C dx fs) := by
  cases bd with
  | jar s f =>
    obtain ⟨h1, dx, lv, mo, h2, h3⟩ := h
    exact ⟨_, _, _, h2⟩
  | win mo s =>
    obtain ⟨l, dx, g, tot, rs, h1, h2, h3, h4⟩ := h
    exact ⟨_, _, _, h2⟩
end
structure Mts (cJM cWM : Addr) (bvs : List (Bd × VS)) (ms : List Mt) (H : Hp) : Prop where
  len : ms.length = bvs.length
  st : ∀ (j : Nat) q m, bvs[j]? = some q → ms[j]? = some m → MtS cJM cWM q.1 q.2 m H
  nd : ∀ (i j : Nat) mi mj, ms[i]? = some mi → ms[j]? = some mj → i ≠ j → ∀ b ∈ foot mi, b ∉ foot mj
theorem Mts.mono {cJM cWM : Addr} {bvs : List (Bd × VS)} {ms : List Mt} {H H' : Hp} (e : Ex H H') (h : Mts cJM cWM bvs ms H) : Mts cJM cWM bvs ms H' := ⟨h.len, fun j q m a b => (h.st j q m a b).mono e, h.nd⟩
def Fit (bvs : List (Bd × VS)) (t : Int) : Prop := ∀ q ∈ bvs, q.1.ok ∧ VOk q.2 ∧ q.2.length ≤ 900 ∧ Upto q.2 t
theorem upto_le {vs : List (Int × Int)} {t t' : Int} (h : Upto vs t) (e : t ≤ t') : Upto vs t' := fun q hq => Int.le_trans (h q hq) e
def refs (ms : List Mt) : List V := ms.map fun m => V.ref m.1
def waitAllV (t c : Int) : List (Bd × VS) → Int → Option Int
  | [], acc => some acc
  | q :: r, acc => match dueV q.1 q.2 t c with
    | none => none
    | some w => waitAllV t c r (max acc w)
def tookV (t c : Int) (bvs : List (Bd × VS)) : List (Bd × VS) := bvs.map fun q => (q.1, q.2 ++ [(t, c)])
def RWaitAll (K : PySem.W.Frag) (cJM cWM : Addr) (vs : List V) (H : Hp) (v : V) : Prop := ∃ p bvs ms t c, vs = [.ref p, .int t, .int c] ∧ SqL K H p (refs ms) ∧ Mts cJM cWM bvs ms H ∧ Fit bvs t ∧ 1 ≤ c ∧ v = opV (waitAllV t c bvs 0)
def spTakeAll (K : PySem.W.Frag) (cJM cWM : Addr) : Sp := fun vs H Q _ => ∃ p bvs ms t c, vs = [.ref p, .int t, .int c] ∧ SqL K H p (refs ms) ∧ Mts cJM cWM bvs ms H ∧ Fit bvs t ∧ 1 ≤ c ∧ (∀ m ∈ ms, p ∉ foot m) ∧
  ∀ H2, (∀ b o, (∀ m ∈ ms, b ∉ foot m) → H b = some o → H2 b = some o) → Mts cJM cWM (tookV t c bvs) ms H2 → Q .non H2
def RNew (K : PySem.W.Frag) (cJ cW cJM cWM : Addr) (vs : List V) (H : Hp) (W : V → Hp → Prop) : Prop := ∃ p ys bds H0, vs = [.ref p] ∧ SqL K H p (ys.map V.ref) ∧ Paired (fun bd y => BdAt cJ cW bd y H) bds ys ∧ bds.length ≤ 100 ∧ Ex H0 H ∧
  W = fun v H2 => ∃ q ms, v = .ref q ∧ H2 q = some (.lst (refs ms)) ∧ Mts cJM cWM (bds.map fun b => (b, [])) ms H2 ∧ (∀ m ∈ ms, ∀ b ∈ foot m, H0 b = none ∧ b ≠ q) ∧ H0 q = none
theorem yesT {σ : L2.St} {H : Hp} {A B : Hp → Prop} (h : A H) : tYes σ H fun b H3 => if b = true then A H3 else B H3 := by
  show if true = true then A H else B H
  rw [if_pos rfl]
  exact h
theorem paired_at {α β : Type} {R : α → β → Prop} : ∀ {xs : List α} {ys : List β}, Paired R xs ys → ∀ {i : Nat} {y : β}, ys[i]? = some y → ∃ x, xs[i]? = some x ∧ R x y
  | [], [], .nil, i, y, h => by simp at h
  | _ :: _, _ :: _, .cons r _, 0, y, h => by
    rw [List.getElem?_cons_zero] at h
    cases h
    exact ⟨_, by rw [List.getElem?_cons_zero], r⟩
  | _ :: _, _ :: _, .cons _ rs, i + 1, y, h => by
    rw [List.getElem?_cons_succ] at h
    obtain ⟨x, e, r⟩ := paired_at rs h
    exact ⟨x, by rw [List.getElem?_cons_succ]; exact e, r⟩
theorem drop_at {α : Type} {l : List α} {i : Nat} {x : α} (h : l[i]? = some x) : l.drop i = x :: l.drop (i + 1) := by
  obtain ⟨hi, e⟩ := List.getElem?_eq_some_iff.mp h
  rw [List.drop_eq_getElem_cons hi, e]
section
variable {P : Program} {w : World} {K : PySem.W.Frag} {mg : Str → Option Value} {base : Heap} {cJ cW cJM cWM : Addr}
theorem cal_wait_for_all {f : Addr} {fd : FuncData} (T : Blt mg) (t_JarMeter_wait : C8.Met P w K mg base 2 cJM "wait" (spF (RWaitJ cJM)) []) (t_WindowMeter_wait : C8.Met P w K mg base 2 cWM "wait" (spF (RWaitW cWM)) []) (F : C8.Def K mg "wait_for_all" s_wait_for_all f fd) (b : Binds K fd ["meters", "moment", "cost"] []) :
    C8.Cal P w K mg base 3 "wait_for_all" (spF (RWaitAll K cJM cWM)) [] := by
  refine calF F b sc_wait_for_all (fun vs H v h => ?_) (fun cdv A outer s H vs v E hr h => ?_)
  · obtain ⟨p, bvs, ms, t, c, rfl, _⟩ := h
    rfl
  · obtain ⟨p, bvs, ms, t, c, rfl, hp, M, ft, hc, rfl⟩ := h
    refine ⟨_, (pss_cons (ps_set (i := 3) sc_wait_for_all.nd rfl (Or.inl rfl) pe_int)
  (pss_cons (ps_for PassesOwn.never rfl (pi_list (pv 0)) (pg_name (i := 4) sc_wait_for_all.nd rfl (Or.inl rfl))
    (pss_cons (ps_set (i := 5) sc_wait_for_all.nd rfl (Or.inl rfl) (pe_or2 (C8.pe_mt t_JarMeter_wait hr (by decide) (pv 4) (pa_cons (pv 1) (pa_cons (pv 2) pa_nil))) (C8.pe_mt t_WindowMeter_wait hr (by decide) (pv 4) (pa_cons (pv 1) (pa_cons (pv 2) pa_nil)))))
    (pss_cons (ps_if (pt_cmp (pc_isN (pv 5)))
      (pss_one (ps_ret pe_non))
      pss_nil)
    (pss_one (ps_set (i := 3) sc_wait_for_all.nd rfl (Or.inl rfl) (pe_callB (call_max2 rfl) (by rfl) T.b_max boot_max (pa_cons (pv 3) (pa_cons (pv 5) pa_nil))))))))
  (pss_one (ps_ret (pv 3))))), ?_⟩
    refine rt_seq (nx_asg ev_c) ?_
    refine RtW.toV ?_
    refine rtwp_for (fun i σ => ∃ acc o1 o2, σ = [some (.ref p), some (.int t), some (.int c), some (.int acc), o1, o2] ∧ waitAllV t c (bvs.drop i) acc = waitAllV t c bvs 0) ⟨0, none, none, rfl, rfl⟩ (ei_l (K := K) .non (ev_var rfl) hp) (fun i σ hi ⟨acc, o1, o2, hσ, hw⟩ => ?_) (fun σ ⟨acc, o1, o2, hσ, hw⟩ => ?_)
    · subst hσ
      have hi : i < ms.length := by rw [refs, List.length_map] at hi; exact hi
      have hm : ms[i]? = some ms[i] := List.getElem?_eq_getElem hi
      have hq : bvs[i]? = some (bvs[i]'(by rw [← M.len]; exact hi)) := List.getElem?_eq_getElem _
      generalize ms[i] = m at hm
      generalize (bvs[i]'(by rw [← M.len]; exact hi)) = q at hq
      have S := M.st i q m hq hm
      obtain ⟨ok, vok, vl, up⟩ := ft q (List.mem_of_getElem? hq)
      have item : (refs ms).getD i .non = .ref m.1 := by
        rw [refs, List.getD_eq_getElem?_getD, List.getElem?_map, hm]
        rfl
      rw [item]
      rw [drop_at hq] at hw
      have ew : ∀ σ' : L2.St, σ'[4]? = some (some (.ref m.1)) → σ'[1]? = some (some (.int t)) → σ'[2]? = some (some (.int c)) → Ev (tOr2 (tMeth cJM "wait" (spF (RWaitJ cJM)) [] C8.E0 (tVar 4) (tCons (tVar 1) (tCons (tVar 2) tNil))) (tMeth cWM "wait" (spF (RWaitW cWM)) [] C8.E0 (tVar 4) (tCons (tVar 1) (tCons (tVar 2) tNil)))) σ' H (opV (dueV q.1 q.2 t c)) := fun σ' h4 h1 h2 => by
        obtain ⟨bd, vis⟩ := q
        cases bd with
        | jar s f =>
          obtain ⟨h1', dx, lv, mo, hx, r⟩ := S
          refine ev_orL (ev_methF (ev_var h4) hx rfl (ea_cons (ev_var h1) (ea_cons (ev_var h2) ea_nil)) fun H1 e => ⟨m.1, dx, s, f, lv, mo, t, c, rfl, e _ _ hx, ⟨ok.2.2.1, ok.2.2.2, r.mm⟩, ?_⟩)
          rw [due_jar r up ok.2.2.1]
        | win mo s =>
          obtain ⟨l, dx, g, tot, rs, h1', hx, hP, r⟩ := S
          refine ev_orR (ev_methF (ev_var h4) hx rfl (ea_cons (ev_var h1) (ea_cons (ev_var h2) ea_nil)) fun H1 e => ⟨m.1, dx, mo, s, l, g, tot, rs, t, c, rfl, e _ _ hx, hP.mono e, r.wok vok (by omega), ?_⟩)
          rw [due_win_is r vok up hc]
      cases hd : dueV q.1 q.2 t c with
      | none =>
        refine .inr (grtw_name ?_)
        rw [hd] at ew
        have z : waitAllV t c bvs 0 = none := by
          rw [← hw, waitAllV, hd]
        refine rtw_seq (nx_asg (ew _ rfl rfl rfl)) ?_
        refine rtw_ifseq (b := true) (et_test (ev_isN (ev_var (v := .non) rfl))) (fun _ => Rt.toW (rt_ret ?_)) fun z => by cases z
        rw [z]
        exact ev_c
      | some n =>
        refine .inl (gnxp_name ?_)
        rw [hd] at ew
        have z : waitAllV t c (bvs.drop (i + 1)) (max acc n) = waitAllV t c bvs 0 := by
          rw [← hw, waitAllV, hd]
        refine nxp_seqP (nxp_of (nx_asg (ew _ rfl rfl rfl)) (P := fun σ => σ = [some (.ref p), some (.int t), some (.int c), some (.int acc), some (.ref m.1), some (.int n)]) rfl) fun σ hσ => ?_
        subst hσ
        refine nxp_seqP (P := fun σ => σ = [some (.ref p), some (.int t), some (.int c), some (.int acc), some (.ref m.1), some (.int n)]) (nxp_if (b := false) (et_test (ev_isN (ev_var (v := .int n) rfl))) (fun z => by cases z) fun _ => nxp_of nx_next rfl) fun σ hσ => ?_
        subst hσ
        exact nxp_of (nx_asg (ev_max (ev_var rfl) (ev_var (v := .int n) rfl))) ⟨max acc n, _, _, rfl, z⟩
    · subst hσ
      have e : bvs.drop (refs ms).length = [] := by
        rw [refs, List.length_map, M.len]
        exact List.drop_length
      rw [e] at hw
      rw [← hw]
      exact Rt.toW (rt_ret (ev_var rfl))
theorem cal_take_by_all {f : Addr} {fd : FuncData} (t_JarMeter_take : C8.Met P w K mg base 2 cJM "take" (spTakeJ cJM) []) (t_WindowMeter_take : C8.Met P w K mg base 2 cWM "take" (spTakeW cWM) []) (F : C8.Def K mg "take_by_all" s_take_by_all f fd) (b : Binds K fd ["meters", "moment", "cost"] []) :
    C8.Cal P w K mg base 3 "take_by_all" (spTakeAll K cJM cWM) [] := by
  refine C8.cal0 F b .nil sc_take_by_all (fun vs H Q E h => ?_) (fun cdv A outer s H vs Q E hr h => ?_)
  · obtain ⟨p, bvs, ms, t, c, rfl, _⟩ := h
    rfl
  · obtain ⟨p, bvs, ms, t, c, rfl, hp, M, ft, hc, np, q⟩ := h
    refine ⟨_, (pss_one (ps_for PassesOwn.never rfl (pi_list (pv 0)) (pg_name (i := 3) sc_take_by_all.nd rfl (Or.inl rfl))
    (pss_one (ps_expr (pe_or2 (C8.pe_mt t_JarMeter_take hr (by decide) (pv 3) (pa_cons (pv 1) (pa_cons (pv 2) pa_nil))) (C8.pe_mt t_WindowMeter_take hr (by decide) (pv 3) (pa_cons (pv 1) (pa_cons (pv 2) pa_nil)))))))), ?_⟩
    have sqk : ∀ H', (∀ b o, (∀ m ∈ ms, b ∉ foot m) → H b = some o → H' b = some o) → SqL K H' p (refs ms) := fun H' k => by
      rcases hp with (h | ⟨o, h⟩) | h
      · exact .inl (.inl (k _ _ np h))
      · exact .inl (.inr ⟨o, k _ _ np h⟩)
      · exact .inr h
    refine s_forLn (K := K) (ev_var rfl) hp (fun i σ' H' => (∃ o, σ' = [some (.ref p), some (.int t), some (.int c), o]) ∧ (∀ b o, (∀ m ∈ ms, b ∉ foot m) → H b = some o → H' b = some o) ∧ ∀ (j : Nat) q m, bvs[j]? = some q → ms[j]? = some m → MtS cJM cWM q.1 (if j < i then q.2 ++ [(t, c)] else q.2) m H')
      (fun H1 e => ⟨⟨none, rfl⟩, fun b o _ h => e _ _ h, fun j q m h1 h2 => by rw [if_neg (Nat.not_lt_zero _)]; exact (M.st j q m h1 h2).mono e⟩) (fun i σ' H' _ ⟨_, k, _⟩ => sqk H' k) (fun i x σ' H' hx ⟨⟨o, hσ⟩, k, st⟩ => ?_) (fun σ' H' ⟨_, k, st⟩ => q H' k ⟨?_, ?_, M.nd⟩)
    · subst hσ
      rw [refs, List.getElem?_map] at hx
      obtain ⟨m, hm, rfl⟩ := Option.map_eq_some_iff.mp hx
      obtain ⟨hi, _⟩ := List.getElem?_eq_some_iff.mp hm
      have hq : bvs[i]? = some (bvs[i]'(by rw [← M.len]; exact hi)) := List.getElem?_eq_getElem _
      generalize (bvs[i]'(by rw [← M.len]; exact hi)) = qq at hq
      have S := st i qq m hq hm
      rw [if_neg (Nat.lt_irrefl _)] at S
      obtain ⟨ok, vok, vl, up⟩ := ft qq (List.mem_of_getElem? hq)
      have hmem : m ∈ ms := List.mem_of_getElem? hm
      have fin : ∀ H2, (∀ b o, b ∉ foot m → H' b = some o → H2 b = some o) → MtS cJM cWM qq.1 (qq.2 ++ [(t, c)]) m H2 →
          (∃ o, ([some (V.ref p), some (V.int t), some (V.int c), some (V.ref m.1)] : L2.St) = [some (.ref p), some (.int t), some (.int c), o]) ∧ (∀ b o, (∀ m ∈ ms, b ∉ foot m) → H b = some o → H2 b = some o) ∧ ∀ (j : Nat) q m, bvs[j]? = some q → ms[j]? = some m → MtS cJM cWM q.1 (if j < i + 1 then q.2 ++ [(t, c)] else q.2) m H2 := fun H2 k2 S2 => by
        refine ⟨⟨_, rfl⟩, fun b o nb hb => k2 b o (nb m hmem) (k b o nb hb), fun j q m' h1 h2 => ?_⟩
        by_cases e : j = i
        · subst e
          rw [h1] at hq
          cases hq
          rw [h2] at hm
          cases hm
          rw [if_pos (Nat.lt_succ_self _)]
          exact S2
        · have z := (st j q m' h1 h2).keep (H' := H2) k2 (M.nd j i m' m h2 hm e) S.nt
          by_cases hj : j < i
          · rw [if_pos hj] at z
            rw [if_pos (by omega)]
            exact z
          · rw [if_neg hj] at z
            rw [if_neg (by omega)]
            exact z
      obtain ⟨bd, vis⟩ := qq
      cases bd with
      | jar sz f =>
        obtain ⟨h1', dx, lv, mo, hx, r⟩ := id S
        refine .inl ⟨_, rfl, m.1, dx, _, rfl, hx, rfl, ?_⟩
        refine (ea_cons (ev_var rfl) (ea_cons (ev_var rfl) ea_nil) : EvA _ _ H' [.int t, .int c]) H' (Ex.refl _) _ fun H1 e1 => ?_
        refine ⟨m.1, dx, sz, f, lv, mo, t, c, rfl, e1 _ _ hx, ⟨ok.2.2.1, ok.2.2.2, r.mm⟩, fun H2 e2 => ?_⟩
        refine fin _ (fun b o nb hb => ?_) ⟨h1', dx, _, _, upd_same, jrel_take r up hc⟩
        rw [upd_ne (fun z => nb (by rw [z]; simp [foot]))]
        exact e2 _ _ (e1 _ _ hb)
      | win mo sp =>
        obtain ⟨l, dx, g, tot, rs, h1', hx, hP, r⟩ := id S
        refine .inr ⟨_, rfl, m.1, dx, _, rfl, hx, rfl, ?_⟩
        refine (ea_cons (ev_var rfl) (ea_cons (ev_var rfl) ea_nil) : EvA _ _ H' [.int t, .int c]) H' (Ex.refl _) _ fun H1 e1 => ?_
        have hlen : rs.length ≤ 900 := by
          obtain ⟨d, hd, hrs, _⟩ := r.ex
          have : vis.length ≤ 900 := vl
          rw [hrs, List.length_drop, tots_len]
          omega
        refine ⟨m.1, dx, mo, sp, l, g, tot, rs, t, c, rfl, e1 _ _ hx, hP.mono e1, hlen, fun H2 k2 hx2 hP2 => ?_⟩
        refine fin _ (fun b o nb hb => ?_) ⟨l, dx, _, _, _, h1', hx2, hP2, wrel_take r vok up ok.2.2.1⟩
        have nb1 : b ≠ m.1 := fun z => nb (by rw [z]; simp [foot])
        have nb2 : b ≠ l := fun z => nb (by rw [z]; simp [foot, h1'])
        exact k2 b o nb1 nb2 (e1 _ _ hb)
    · rw [tookV, List.length_map]
      exact M.len
    · intro j qq m h1 h2
      rw [tookV, List.getElem?_map] at h1
      obtain ⟨q0, h3, rfl⟩ := Option.map_eq_some_iff.mp h1
      have z := st j q0 m h3 h2
      rw [if_pos (by rw [refs, List.length_map]; exact (List.getElem?_eq_some_iff.mp h2).1)] at z
      exact z
theorem cal_new_meters {f : Addr} {fd : FuncData} (t_Jar_meter : C8.Met P w K mg base 3 cJ "meter" (spW (RMetJ2 cJ cJM)) []) (t_Window_meter : C8.Met P w K mg base 3 cW "meter" (spW (RMetW2 cW cWM)) []) (F : C8.Def K mg "new_meters" s_new_meters f fd) (b : Binds K fd ["bounds"] []) :
    C8.Cal P w K mg base 4 "new_meters" (spW (RNew K cJ cW cJM cWM)) [] := by
  refine calW F b sc_new_meters (fun vs H v h => ?_) (fun cdv A outer s H vs W E hr h => ?_)
  · obtain ⟨p, ys, bds, H0, rfl, _⟩ := h
    rfl
  · obtain ⟨p, ys, bds, H0, rfl, hp, hb, hl, e0, rfl⟩ := h
    refine ⟨_, (pss_one (ps_ret (pe_lc (own := [("bound", 1)]) (g := gName 1) rfl sc_new_meters.nd (pi_list (pv 0)) (blkOk_by (own := [("bound", 1)]) (N := ["bounds", "bound"]) (sc := C8.fnScope s_new_meters) (by decide +kernel)) (fun _ _ _ _ _ => pg_name (i := 1) sc_new_meters.nd rfl (Or.inl rfl)) (fun _ _ _ _ _ => pts_nil) (fun _ _ _ _ _ => (pe_or2 (C8.pe_mt0 t_Jar_meter hr (by decide) (pv 1)) (C8.pe_mt0 t_Window_meter hr (by decide) (pv 1))))))), ?_⟩
    refine rtw_ret fun H1 e1 Q q => ?_
    have hlen : bds.length = ys.length := Paired.length hb
    refine ⟨_, rfl, p, rfl, ⟨ys.map V.ref, ex_l e1 hp⟩, fun D nD => ?_⟩
    refine lc_list (K := K) (a := p) (xs := ys.map V.ref) (fun i H' => Ex H1 H' ∧ ∃ ms : List Mt, ms.length = i ∧ H' D = some (.lst (refs ms)) ∧ (∀ (j : Nat) bd m, bds[j]? = some bd → ms[j]? = some m → MtS cJM cWM bd [] m H') ∧ (∀ (i j : Nat) mi mj, ms[i]? = some mi → ms[j]? = some mj → i ≠ j → ∀ b ∈ foot mi, b ∉ foot mj) ∧ ∀ m ∈ ms, ∀ b ∈ foot m, H0 b = none ∧ b ≠ D ∧ H' b ≠ none)
      ⟨Ex.new nD, [], rfl, upd_same, fun j bd m _ h => by simp at h, fun i j mi mj h => by simp at h, fun m h => by cases h⟩ (fun i H' _ ⟨e, _⟩ => ex_l (e1.trans e) hp) (fun i x H' hx ⟨e, ms, hms, hD, st, nd, fr⟩ => ?_) (fun H' ⟨e, ms, hms, hD, st, nd, fr⟩ => ?_)
    · rw [List.getElem?_map] at hx
      obtain ⟨y, hy, rfl⟩ := Option.map_eq_some_iff.mp hx
      obtain ⟨bd, hbd, hBd0⟩ := paired_at hb hy
      have hBd := hBd0.mono (e1.trans e)
      clear hBd0
      have hi : i < bds.length := (List.getElem?_eq_some_iff.mp hbd).1
      show wipe _ _ = wipe _ _ ∧ _
      refine ⟨rfl, ?_⟩
      -- a new meter: its footprint is new
      have fin : ∀ (m : Mt) (H2 : Hp), Ex H' H2 → (∀ b ∈ foot m, H' b = none ∧ H2 b ≠ none) → MtS cJM cWM bd [] m H2 → ∃ acc, H2 D = some (.lst acc) ∧ acc.length < sizeLine ∧ (Ex H1 (upd H2 D (.lst (acc ++ [.ref m.1]))) ∧ ∃ ms : List Mt, ms.length = i + 1 ∧ upd H2 D (.lst (acc ++ [.ref m.1])) D = some (.lst (refs ms)) ∧ (∀ (j : Nat) bd m', bds[j]? = some bd → ms[j]? = some m' → MtS cJM cWM bd [] m' (upd H2 D (.lst (acc ++ [.ref m.1])))) ∧ (∀ (i j : Nat) mi mj, ms[i]? = some mi → ms[j]? = some mj → i ≠ j → ∀ b ∈ foot mi, b ∉ foot mj) ∧ ∀ m' ∈ ms, ∀ b ∈ foot m', H0 b = none ∧ b ≠ D ∧ upd H2 D (.lst (acc ++ [.ref m.1])) b ≠ none) := fun m H2 e2 fm S => by
        have hD2 := e2 _ _ hD
        have mD : ∀ b ∈ foot m, b ≠ D := fun b hb z => by
          rw [z] at hb
          have := (fm D hb).1
          rw [hD] at this
          cases this
        have keepD : ∀ b o, b ∉ [D] → H2 b = some o → upd H2 D (.lst (refs ms ++ [.ref m.1])) b = some o := fun b o nb hb => by
          rw [upd_ne (fun z => nb (by rw [z]; simp))]
          exact hb
        have ntD : ∀ b ∈ [D], ∀ xs, H2 b ≠ some (.tup xs) := fun b hb xs z => by
          obtain rfl : b = D := by simpa using hb
          rw [hD2] at z
          cases z
        refine ⟨refs ms, hD2, ?_, (e.trans e2).mut nD, ms ++ [m], ?_, ?_, fun j bd' m' h1 h2 => ?_, fun i' j' mi mj h1 h2 hne => ?_, fun m' hm' b hb => ?_⟩
        · rw [refs, List.length_map]
          exact sz_lt (by omega)
        · rw [List.length_append, hms]
          rfl
        · rw [upd_same]
          unfold refs
          rw [List.map_append]
          rfl
        · by_cases hj : j < ms.length
          · rw [List.getElem?_append_left hj] at h2
            refine MtS.keep ((st j bd' m' h1 h2).mono e2) keepD (fun b hb z => ?_) ntD
            exact (fr m' (List.mem_of_getElem? h2) b hb).2.1 (by simpa using z)
          · rw [List.getElem?_append_right (by omega)] at h2
            have hj0 : j - ms.length = 0 := by
              have := (List.getElem?_eq_some_iff.mp h2).1
              simp at this
              omega
            rw [hj0] at h2
            obtain rfl : m = m' := by simpa using h2
            have : j = i := by omega
            subst this
            rw [hbd] at h1
            cases h1
            refine MtS.keep S keepD (fun b hb z => mD b hb (by simpa using z)) ntD
        · have one : ∀ (k : Nat) mk, (ms ++ [m])[k]? = some mk → (k < ms.length ∧ ms[k]? = some mk) ∨ (k = ms.length ∧ mk = m) := fun k mk h => by
            by_cases hk : k < ms.length
            · rw [List.getElem?_append_left hk] at h
              exact .inl ⟨hk, h⟩
            · rw [List.getElem?_append_right (by omega)] at h
              have hk0 : k - ms.length = 0 := by
                have := (List.getElem?_eq_some_iff.mp h).1
                simp at this
                omega
              rw [hk0] at h
              exact .inr ⟨by omega, by simpa using h.symm⟩
          have apart : ∀ mk ∈ ms, ∀ b ∈ foot mk, b ∉ foot m := fun mk hk b hb z => (fr mk hk b hb).2.2 (fm b z).1
          intro b hb hz
          rcases one i' mi h1 with ⟨l1, g1⟩ | ⟨l1, g1⟩
          · rcases one j' mj h2 with ⟨l2, g2⟩ | ⟨l2, g2⟩
            · exact nd i' j' mi mj g1 g2 hne b hb hz
            · subst g2
              exact apart mi (List.mem_of_getElem? g1) b hb hz
          · rcases one j' mj h2 with ⟨l2, g2⟩ | ⟨l2, g2⟩
            · subst g1
              exact apart mj (List.mem_of_getElem? g2) b hz hb
            · omega
        · rcases List.mem_append.mp hm' with hm' | hm'
          · obtain ⟨a1, a2, a3⟩ := fr m' hm' b hb
            refine ⟨a1, a2, ?_⟩
            rw [upd_ne a2]
            cases z : H' b with
            | none => exact absurd z a3
            | some o =>
              rw [e2 _ _ z]
              exact fun z => by cases z
          · obtain rfl : m' = m := by simpa using hm'
            refine ⟨fresh_back (e0.trans (e1.trans e)) (fm b hb).1, mD b hb, ?_⟩
            rw [upd_ne (mD b hb)]
            exact (fm b hb).2
      refine yesT ?_
      cases bd with
      | jar sz f =>
        obtain ⟨dy, hx⟩ := hBd
        refine .inl ⟨.ref y, rfl, y, dy, fJar sz f, rfl, hx, rfl, ?_⟩
        refine ⟨fun v H2 => ∃ x, v = .ref x ∧ H' x = none ∧ ∃ dx, H2 x = some (.ins cJM dx (fJM sz f 0 none)), fun H2 e2 => ⟨y, dy, sz, f, H', rfl, e2 _ _ hx, e2, rfl⟩, fun v H2 e2 ⟨x, ev, nx, dx, hh⟩ => ?_⟩
        subst ev
        exact fin (x, none) H2 e2 (fun b hb => by
          obtain rfl : b = x := by simpa [foot] using hb
          exact ⟨nx, by rw [hh]; exact fun z => by cases z⟩) ⟨rfl, dx, 0, none, hh, jrel_nil f⟩
      | win mo sp =>
        obtain ⟨dy, hx⟩ := hBd
        refine .inr ⟨.ref y, rfl, y, dy, fWin mo sp, rfl, hx, rfl, ?_⟩
        refine ⟨fun v H2 => ∃ x, v = .ref x ∧ H' x = none ∧ ∃ dx l, H2 x = some (.ins cWM dx (fWM mo sp l 0 0)) ∧ H2 l = some (.lst []) ∧ H' l = none, fun H2 e2 => ⟨y, dy, mo, sp, H', rfl, e2 _ _ hx, e2, rfl⟩, fun v H2 e2 ⟨x, ev, nx, dx, l, hh, hl2, nl⟩ => ?_⟩
        subst ev
        exact fin (x, some l) H2 e2 (fun b hb => by
          have hb : b = x ∨ b = l := by simpa [foot] using hb
          rcases hb with rfl | rfl
          · exact ⟨nx, by rw [hh]; exact fun z => by cases z⟩
          · exact ⟨nl, by rw [hl2]; exact fun z => by cases z⟩) ⟨l, dx, 0, 0, [], rfl, hh, ⟨[], hl2, .nil⟩, wrel_nil sp⟩
    · rw [List.length_map] at hms
      have eD : Ex H1 H' := e
      refine q (.ref D) H' e ⟨D, ms, rfl, hD, ⟨by rw [hms, List.length_map, hlen], fun j qq m h1 h2 => ?_, nd⟩, fun m hm b hb => ⟨(fr m hm b hb).1, (fr m hm b hb).2.1⟩, fresh_back (e0.trans e1) nD⟩
      rw [List.getElem?_map] at h1
      obtain ⟨bd, h3, rfl⟩ := Option.map_eq_some_iff.mp h1
      exact st j bd m h3 h2
end
/-! the refusals: what the written part says of their classes; kinds of things -/
theorem kit_sub {K : PySem.W.Frag} {C D : Addr} {b : Bool} (hd : PySem.W.hasDictIn K D = true) (ht : PySem.W.typeIn K (.ref D) = some (.type "type")) (hs : PySem.W.subIn K (.ref C) (.ref D) = some b) (hne : b = false → C ≠ D) : PySem.W.kitOne K (.ref C) (.ref D) = some b := by
  obtain ⟨cd, hc, _⟩ := PySem.W.any_some hd
  have e2 : ((PySem.W.clsIn K D).isSome && PySem.W.typeIn K (.ref D) == some (.type "type")) = true := by rw [hc, ht] <;> rfl
  show (if (Value.ref C == Value.ref D) = true then some true else PySem.W.kitCls K (.ref C) (.ref D)) = some b
  by_cases h : (Value.ref C == Value.ref D) = true
  · rw [if_pos h]
    cases b with
    | true => rfl
    | false =>
      have e := beq_iff_eq.mp h
      injection e with e
      exact absurd e (hne rfl)
  · rw [if_neg h]
    show (if ((PySem.W.clsIn K D).isSome && PySem.W.typeIn K (.ref D) == some (.type "type")) = true then PySem.W.subIn K (.ref C) (.ref D) else none) = some b
    rw [if_pos e2]
    exact hs
theorem kit_yes {K : PySem.W.Frag} {C D : Addr} (hd : PySem.W.hasDictIn K D = true) (ht : PySem.W.typeIn K (.ref D) = some (.type "type")) (hs : PySem.W.subIn K (.ref C) (.ref D) = some true) : PySem.W.kitOne K (.ref C) (.ref D) = some true := kit_sub hd ht hs fun z => by cases z
theorem kit_no {K : PySem.W.Frag} {C D : Addr} (hd : PySem.W.hasDictIn K D = true) (ht : PySem.W.typeIn K (.ref D) = some (.type "type")) (hs : PySem.W.subIn K (.ref C) (.ref D) = some false) (me : PySem.W.subIn K (.ref C) (.ref C) = some true) : PySem.W.kitOne K (.ref C) (.ref D) = some false := kit_sub hd ht hs fun _ e => by
  subst e
  rw [me] at hs
  cases hs
theorem kit_ve {K : PySem.W.Frag} {C : Addr} (hs : PySem.W.subIn K (.ref C) (.type "ValueError") = some true) : PySem.W.kitOne K (.ref C) (.type "ValueError") = some true := by
  show (if (Value.ref C == Value.type "ValueError") = true then some true else if PySem.W.kitMeta "ValueError" = true then PySem.W.subIn K (.ref C) (.type "ValueError") else none) = some true
  have m : PySem.W.kitMeta "ValueError" = true := by decide +kernel
  by_cases h : (Value.ref C == Value.type "ValueError") = true
  · rw [if_pos h]
  · rw [if_neg h, if_pos m]
    exact hs

structure Rs (K : PySem.W.Frag) (mg : Str → Option Value) (x : Str) (C : Addr) : Prop where
  gP : mg x = some (.ref C)
  xP : PySem.W.excIn K C [.type "ValueError", .type "Exception", .type "BaseException", .type "object"] "ValueError.__new__" = true
  kP : PySem.W.keepIn K (.ref C) = true
  bP : PySem.W.subIn K (.ref C) (.type "BaseException") = some true
  tP : PySem.W.typeIn K (.ref C) = some (.type "type")
structure Xf (K : PySem.W.Frag) (mg : Str → Option Value) (x : Str) (C fI : Addr) (fd : FuncData) (ps : List Str) : Prop where
  g : mg x = some (.ref C)
  ox : OexC K C
  ii : PySem.W.findIn K (.ref C) "__init__" = some (some (.ref fI))
  it : PySem.W.typeIn K (.ref fI) = some (.type "function")
  bi : Binds K fd ps []
structure Gcl (mg : Str → Option Value) (cG : Addr) (cs : Nat → Addr) (cJ cW : Addr) : Prop extends Cst mg where
  c_GateError : mg "GateError" = some (.ref cG)
  c_NoBound : mg "NoBound" = some (.ref (cs 0))
  c_NoName : mg "NoName" = some (.ref (cs 1))
  c_NoMoment : mg "NoMoment" = some (.ref (cs 2))
  c_Late : mg "Late" = some (.ref (cs 3))
  c_NoCost : mg "NoCost" = some (.ref (cs 4))
  c_BadRow : mg "BadRow" = some (.ref (cs 5))
  c_Jar : mg "Jar" = some (.ref cJ)
  c_Window : mg "Window" = some (.ref cW)
structure Kdr (K : PySem.W.Frag) (cG : Addr) (cs : Nat → Addr) (n : Nat) : Prop where
  ex : ∀ i, i < n → ExcC K (cs i)
  em : ∀ i, i < n → PySem.W.exmOne K (.ref (cs i)) (.ref cG) = some true
  kV : ∀ i, i < n → PySem.W.kitOne K (.ref (cs i)) (.type "ValueError") = some true
  kk : ∀ i j, i < n → j < n → PySem.W.kitOne K (.ref (cs i)) (.ref (cs j)) = some (decide (i = j))
def Kd (K : PySem.W.Frag) (H : Hp) (x : V) : Prop := (∃ i, x = .int i) ∨ (NoInt K H x ∧ ∀ i, x ≠ .int i)
theorem Kd.mono {K : PySem.W.Frag} {H H' : Hp} {x : V} (e : Ex H H') (h : Kd K H x) : Kd K H' x := h.imp id fun ⟨a, b⟩ => ⟨a.mono e, b⟩
def inR (x : V) (lo hi : Int) : Bool := match x with
  | .int i => decide (lo ≤ i) && decide (i ≤ hi)
  | _ => false
theorem inR_no {x : V} {lo hi : Int} (h : ∀ i, x ≠ .int i) : inR x lo hi = false := by
  unfold inR
  split
  · exact absurd rfl (h _)
  · rfl
theorem rWithinK {K : PySem.W.Frag} {H : Hp} {x : V} {lo hi : Int} (h : Kd K H x) : ∀ H1, Ex H H1 → RWithin K [x, .int lo, .int hi] H1 (.bl (inR x lo hi)) := fun H1 e => by
  rcases h with ⟨i, rfl⟩ | ⟨h1, h2⟩
  · exact ⟨.int i, lo, hi, rfl, .inl ⟨i, rfl, rfl⟩⟩
  · exact ⟨x, lo, hi, rfl, .inr ⟨h1.mono e, by rw [inR_no h2]⟩⟩
theorem inR_int {x : V} {lo hi : Int} (h : inR x lo hi = true) : ∃ i, x = .int i ∧ lo ≤ i ∧ i ≤ hi := by
  unfold inR at h
  split at h
  · rename_i i
    rw [Bool.and_eq_true] at h
    exact ⟨i, rfl, of_decide_eq_true h.1, of_decide_eq_true h.2⟩
  · cases h
/-! a bound or none -/
structure InsF (K : PySem.W.Frag) (C : Addr) : Prop where
  ha : PySem.W.findIn K (.ref C) "__class__" = some (some (.builtin "object.__class__"))
  hm : PySem.W.mroIn K C (.type "object") = some true
def noCls (n : String) : Bool := (fastBuiltinMro n).any fun l => l.all fun v => match v with
  | .type _ => true
  | _ => false
theorem sub_noCls {K : PySem.W.Frag} {n : String} {C : Addr} (h : noCls n = true) : PySem.W.subIn K (.type n) (.ref C) = some false := by
  unfold noCls at h
  show (fastBuiltinMro n).map (·.contains (.ref C)) = some false
  cases e : fastBuiltinMro n with
  | none =>
    rw [e] at h
    cases h
  | some l =>
    rw [e] at h
    have h : l.all (fun v => match v with | .type _ => true | _ => false) = true := h
    show some (l.contains (.ref C)) = some false
    congr 1
    cases z : l.contains (Value.ref C) with
    | false => rfl
    | true =>
      have m := List.contains_iff_mem.mp z
      have y := List.all_eq_true.mp h _ m
      cases y
structure BdC (K : PySem.W.Frag) (cJ cW : Addr) : Prop where
  clJ : Cls K cJ
  clW : Cls K cW
  fJ : InsF K cJ
  fW : InsF K cW
  hn : PySem.W.specialIn K (.builtin "object.__class__") "__get__" = some (some (.builtin "getset_descriptor.__get__"))
  ht : PySem.W.takesIn K (.builtin "object.__class__") = some true
  wj : PySem.W.kitOne K (.ref cW) (.ref cJ) = some false
  dJ : PySem.W.hasDictIn K cJ = true
  dW : PySem.W.hasDictIn K cW = true
  tJ : PySem.W.typeIn K (.ref cJ) = some (.type "type")
  tW : PySem.W.typeIn K (.ref cW) = some (.type "type")
theorem kit_one_no {K : PySem.W.Frag} {n : String} {D : Addr} (hd : PySem.W.hasDictIn K D = true) (ht : PySem.W.typeIn K (.ref D) = some (.type "type")) (h : noCls n = true) : PySem.W.kitOne K (.type n) (.ref D) = some false := by
  obtain ⟨cd, hc, _⟩ := PySem.W.any_some hd
  have e2 : ((PySem.W.clsIn K D).isSome && PySem.W.typeIn K (.ref D) == some (.type "type")) = true := by rw [hc, ht] <;> rfl
  show (if (Value.type n == Value.ref D) = true then some true else PySem.W.kitCls K (.type n) (.ref D)) = some false
  rw [if_neg (fun z => by cases beq_iff_eq.mp z)]
  show (if ((PySem.W.clsIn K D).isSome && PySem.W.typeIn K (.ref D) == some (.type "type")) = true then PySem.W.subIn K (.type n) (.ref D) else none) = some false
  rw [if_pos e2]
  exact sub_noCls h
theorem kit_any_no {K : PySem.W.Frag} {cJ cW : Addr} (B : BdC K cJ cW) {n : String} (h : noCls n = true) : PySem.W.kitAny K (.type n) [.ref cJ, .ref cW] = some false := by
  unfold PySem.W.kitAny
  rw [kit_one_no B.dJ B.tJ h]
  unfold PySem.W.kitAny
  rw [kit_one_no B.dW B.tW h]
  rfl
theorem kit_self {K : PySem.W.Frag} {C : Addr} : PySem.W.kitOne K (.ref C) (.ref C) = some true := by
  unfold PySem.W.kitOne
  rw [if_pos (beq_self_eq_true _)]
theorem kit_any_J {K : PySem.W.Frag} {cJ cW : Addr} : PySem.W.kitAny K (.ref cJ) [.ref cJ, .ref cW] = some true := by
  unfold PySem.W.kitAny
  rw [kit_self]
theorem kit_any_W {K : PySem.W.Frag} {cJ cW : Addr} (B : BdC K cJ cW) : PySem.W.kitAny K (.ref cW) [.ref cJ, .ref cW] = some true := by
  unfold PySem.W.kitAny
  rw [B.wj]
  unfold PySem.W.kitAny
  rw [kit_self]
def NotBd (K : PySem.W.Frag) (H : Hp) (v : V) : Prop := ∃ n : String, (∀ H1, Ex H H1 → TyX K H1 v (.type n)) ∧ noCls n = true
theorem NotBd.mono {K : PySem.W.Frag} {H H' : Hp} {v : V} (e : Ex H H') (h : NotBd K H v) : NotBd K H' v := h.imp fun n z => ⟨fun H1 e1 => z.1 H1 (e.trans e1), z.2⟩
def IsBd (cJ cW : Addr) (v : V) (H : Hp) : Prop := ∃ bd y, v = .ref y ∧ BdAt cJ cW bd y H
theorem IsBd.mono {cJ cW : Addr} {H H' : Hp} {v : V} (e : Ex H H') (h : IsBd cJ cW v H) : IsBd cJ cW v H' := h.imp fun bd z => z.imp fun y z => ⟨z.1, z.2.mono e⟩
def Sq (K : PySem.W.Frag) (H : Hp) (p : Addr) (xs : List V) : Prop := SqL K H p xs ∨ SqT K H p xs
theorem Sq.mono {K : PySem.W.Frag} {H H' : Hp} {p : Addr} {xs : List V} (e : Ex H H') (h : Sq K H p xs) : Sq K H' p xs := h.imp (ex_l e) (ex_t e)
def GoodBs (K : PySem.W.Frag) (cJ cW : Addr) (xs : List V) (bds : List Bd) (H : Hp) : Prop := ∃ ys : List Addr, xs = ys.map V.ref ∧ Paired (fun bd y => BdAt cJ cW bd y H) bds ys ∧ bds.length ≤ 4
def BadBs (K : PySem.W.Frag) (cJ cW : Addr) (xs : List V) (H : Hp) : Prop := 4 < xs.length ∨ (xs.length ≤ 4 ∧ ∃ (i : Nat) (v : V), xs[i]? = some v ∧ NotBd K H v ∧ ∀ j u, j < i → xs[j]? = some u → IsBd cJ cW u H)
section
variable {K : PySem.W.Frag} {σ : L2.St} {H : Hp} {ta : TE} {p : Addr} {xs : List V} {g : TG} {tu : TS} {D : Ends}
theorem ev_lenQ (ha : Ev ta σ H (.ref p)) (hx : Sq K H p xs) : Ev (tCB (fun xs H Q => ∃ p ys, xs = [.ref p] ∧ (SqL K H p ys ∨ SqT K H p ys) ∧ Q (.int ys.length) H) (tCons ta tNil)) σ H (.int (xs.length : Int)) := fun H1 e Q q =>
  ha H1 e _ fun H2 e2 => ⟨p, xs, rfl, hx.mono (e.trans e2), q H2 e2⟩
theorem el_listQ (ha : Ev ta σ H (.ref p)) (h : Sq K H p xs) : EvL (tCB (rListS K) (tCons ta tNil)) σ H xs := fun H1 e Q q =>
  ha H1 e _ fun H2 e2 => ⟨p, xs, rfl, h.mono (e.trans e2), fun l hl => q l _ (fresh_back e2 hl) (e2.trans (Ex.new hl)) upd_same⟩
theorem s_forQ {j : Nat} (h : Ev ta σ H (.ref p)) (hx : Sq K H p xs) (Pv : Nat → L2.St → Hp → Prop) (h0 : ∀ H1, Ex H H1 → Pv 0 σ H1) (hl : ∀ i σ' H', i ≤ xs.length → Pv i σ' H' → Sq K H' p xs)
    (hk : (∃ H1, SqL K H1 p xs) → ∀ i σ' H', i ≤ xs.length → Pv i σ' H' → SqL K H p xs → SqL K H' p xs) (hk2 : ∀ i σ' H', i ≤ xs.length → Pv i σ' H' → SqT K H p xs → SqT K H' p xs)
    (hs : ∀ i x σ' H', xs[i]? = some x → Pv i σ' H' → tu { D with nx := Pv (i + 1), ct := Pv (i + 1), bk := D.nx } (σ'.set j (some x)) H') (hd : ∀ σ' H', Pv xs.length σ' H' → D.nx σ' H') : tFor (iOr2 (iList K ta) (iTup K ta)) (gName j) tu D σ H := by
  rcases hx with hx | hx
  · exact .inl (s_forL (K := K) h hx Pv h0 (fun i σ' H' hi pv => hk ⟨H, hx⟩ i σ' H' hi pv hx) hs hd)
  · exact .inr (s_forT (K := K) h hx Pv h0 (fun i σ' H' hi pv => hk2 i σ' H' hi pv hx) hs hd)
end
theorem fmt_n {n : Int} (h : n.natAbs.log2 < 1920) {H : Hp} {σ : L2.St} : Ev (tFmt (tC (.int n))) σ H (.str (toString n)) := fun H1 _ Q q => .inr ⟨n, rfl, h, q H1 (Ex.refl _)⟩
/-! the checks -/
def spCheckBound (K : PySem.W.Frag) (cJ cW cN : Addr) : Sp := fun vs H Q E => ∃ v, vs = [v] ∧ ((IsBd cJ cW v H ∧ ∀ H2, Ex H H2 → Q .non H2) ∨ (NotBd K H v ∧ ∀ H2, Ex H H2 → E (.ref cN) none H2))
def spCopied (K : PySem.W.Frag) (cJ cW cN : Addr) : Sp := fun vs H Q E => ∃ p xs, vs = [.ref p] ∧ Sq K H p xs ∧ xs.length ≤ 1000 ∧
  ((∃ bds, GoodBs K cJ cW xs bds H ∧ ∀ l H2, H l = none → Ex H H2 → H2 l = some (.lst xs) → Q (.ref l) H2) ∨ (BadBs K cJ cW xs H ∧ ∀ H2, Ex H H2 → E (.ref cN) none H2))
def spChk (K : PySem.W.Frag) (C : Addr) (lo hi : Int) : Sp := fun vs H Q E => ∃ v, vs = [v] ∧ Kd K H v ∧ ((inR v lo hi = true ∧ ∀ H2, Ex H H2 → Q .non H2) ∨ (inR v lo hi = false ∧ ∀ H2, Ex H H2 → E (.ref C) none H2))
section
variable {P : Program} {w : World} {K : PySem.W.Frag} {mg : Str → Option Value} {base : Heap} {cG : Addr} {cs : Nat → Addr} {cJ cW cN : Addr}
theorem cal_check_bound {f : Addr} {fd : FuncData} (T : Blt mg) (G : Gcl mg cG cs cJ cW) (B : BdC K cJ cW) (RB : Rs K mg "NoBound" cN) (F : C8.Def K mg "check_bound" s_check_bound f fd) (b : Binds K fd ["bound"] []) : CalX P w K mg base 1 "check_bound" (spCheckBound K cJ cW cN) := by
  refine calX F b sc_check_bound (fun vs H Q E h => ?_) (fun cdv A outer s H vs Q E hr h => ?_)
  · obtain ⟨v, rfl, _⟩ := h
    rfl
  · obtain ⟨v, rfl, h⟩ := h
    refine ⟨_, (pss_one (ps_if (pt_not (pt_val (pe_callB call_isiT (by rfl) T.b_isinstance boot_isinstance (pa_cons (pv 0) (pa_cons (pe_tup (pa_cons (pe_glob (v := .ref cJ) rfl G.c_Jar rfl) (pa_cons (pe_glob (v := .ref cW) rfl G.c_Window rfl) pa_nil))) pa_nil)))))
    (pss_one (ps_raise rfl (takes_of rfl rfl rfl rfl) (SkE.pmk_own1 PySem.F.excBase_ValueError RB.xP RB.gP RB.kP (raises_own RB.bP RB.tP) rfl pe_str)))
    pss_nil)), ?_⟩
    rcases h with ⟨⟨bd, y, rfl, hb⟩, q⟩ | ⟨⟨n, hn, hc⟩, q⟩
    · have ty : ∃ C, (C = cJ ∨ C = cW) ∧ ∀ H1, Ex H H1 → TyX K H1 (.ref y) (.ref C) := by
        cases bd with
        | jar s f =>
          obtain ⟨dy, hx⟩ := hb
          exact ⟨cJ, .inl rfl, fun H1 e => .base (.ins (e _ _ hx) B.clJ B.fJ.ha B.hn B.ht B.fJ.hm)⟩
        | win s f =>
          obtain ⟨dy, hx⟩ := hb
          exact ⟨cW, .inr rfl, fun H1 e => .base (.ins (e _ _ hx) B.clW B.fW.ha B.hn B.ht B.fW.hm)⟩
      obtain ⟨C, hC, ty⟩ := ty
      have hk : PySem.W.kitAny K (.ref C) [.ref cJ, .ref cW] = some true := by
        rcases hC with rfl | rfl
        · exact kit_any_J
        · exact kit_any_W B
      refine s_when (b := false) (et_not (a := true) (et_B fun H1 e1 Q1 q1 => ?_)) (fun z => by cases z) fun _ H1 e1 => q H1 e1
      refine ⟨_, rfl, (by show 2 ≤ sizeLine; decide), fun tp htp => ?_⟩
      refine ⟨_, tp, [.ref cJ, .ref cW], .ref C, [.ref cJ, .ref cW], true, rfl, upd_same, .cons (.own _) (.cons (.own _) .nil), ty _ (e1.trans (Ex.new htp)), hk, q1 _ (Ex.new htp)⟩
    · refine s_when (b := true) (et_not (a := false) (et_B fun H1 e1 Q1 q1 => ?_)) (fun _ H1 e1 => ?_) fun z => by cases z
      · refine ⟨_, rfl, (by show 2 ≤ sizeLine; decide), fun tp htp => ?_⟩
        refine ⟨_, tp, [.ref cJ, .ref cW], .type n, [.ref cJ, .ref cW], false, rfl, upd_same, .cons (.own _) (.cons (.own _) .nil), hn _ (e1.trans (Ex.new htp)), kit_any_no B hc, q1 _ (Ex.new htp)⟩
      · exact q H1 e1
theorem cal_check_moment {f : Addr} {fd : FuncData} (G : Gcl mg cG cs cJ cW) (RM : Rs K mg "NoMoment" cN) (c_is_within : C8.Cal P w K mg base 1 "is_within" (spF (RWithin K)) []) (F : C8.Def K mg "check_moment" s_check_moment f fd) (b : Binds K fd ["moment"] []) : CalX P w K mg base 2 "check_moment" (spChk K cN 0 1000000000000) := by
  refine calX F b sc_check_moment (fun vs H Q E h => ?_) (fun cdv A outer s H vs Q E hr h => ?_)
  · obtain ⟨v, rfl, _⟩ := h
    rfl
  · obtain ⟨v, rfl, kv, h⟩ := h
    refine ⟨_, (pss_one (ps_if (pt_not (pt_val (C8.pe_c c_is_within hr (by decide) rfl (pa_cons (pv 0) (pa_cons pe_int (pa_cons (C8.pe_gc rfl G.g_LARGEST_MOMENT) pa_nil))))))
    (pss_one (ps_raise rfl (takes_of rfl rfl rfl rfl) (SkE.pmk_own1 PySem.F.excBase_ValueError RM.xP RM.gP RM.kP (raises_own RM.bP RM.tP) rfl (pe_joined (.cons pe_str (.cons (pe_fmt (C8.pe_gc rfl G.g_LARGEST_MOMENT)) .nil))))))
    pss_nil)), ?_⟩
    have e1 : EvT (tNot (tB (tCall (spF (RWithin K)) [] C8.E0 (tCons (tVar 0) (tCons (tC (.int 0)) (tCons (tC (.int 1000000000000)) tNil)))))) (start ["moment"] [v]) H (!inR v 0 1000000000000) := et_not (et_B (ev_callF (ea_cons (ev_var rfl) (ea_cons ev_c (ea_cons ev_c ea_nil))) (rWithinK kv)))
    rcases h with ⟨h, q⟩ | ⟨h, q⟩
    · rw [h] at e1
      exact s_when (b := false) e1 (fun z => by cases z) fun _ H1 g => q H1 g
    · rw [h] at e1
      refine s_when (b := true) e1 (fun _ H1 g => ?_) fun z => by cases z
      refine ⟨_, rfl, by decide, ?_⟩
      exact fmt_n (by decide +kernel) H1 (Ex.refl H1) _ fun H2 g2 => ⟨_, rfl, by decide +kernel, q H2 (g.trans g2)⟩
theorem cal_check_cost {f : Addr} {fd : FuncData} (G : Gcl mg cG cs cJ cW) (RC : Rs K mg "NoCost" cN) (c_is_within : C8.Cal P w K mg base 1 "is_within" (spF (RWithin K)) []) (F : C8.Def K mg "check_cost" s_check_cost f fd) (b : Binds K fd ["cost"] []) : CalX P w K mg base 2 "check_cost" (spChk K cN 1 1000000000) := by
  refine calX F b sc_check_cost (fun vs H Q E h => ?_) (fun cdv A outer s H vs Q E hr h => ?_)
  · obtain ⟨v, rfl, _⟩ := h
    rfl
  · obtain ⟨v, rfl, kv, h⟩ := h
    refine ⟨_, (pss_one (ps_if (pt_not (pt_val (C8.pe_c c_is_within hr (by decide) rfl (pa_cons (pv 0) (pa_cons pe_int (pa_cons (C8.pe_gc rfl G.g_LARGEST_COST) pa_nil))))))
    (pss_one (ps_raise rfl (takes_of rfl rfl rfl rfl) (SkE.pmk_own1 PySem.F.excBase_ValueError RC.xP RC.gP RC.kP (raises_own RC.bP RC.tP) rfl (pe_joined (.cons pe_str (.cons (pe_fmt (C8.pe_gc rfl G.g_LARGEST_COST)) .nil))))))
    pss_nil)), ?_⟩
    have e1 : EvT (tNot (tB (tCall (spF (RWithin K)) [] C8.E0 (tCons (tVar 0) (tCons (tC (.int 1)) (tCons (tC (.int 1000000000)) tNil)))))) (start ["cost"] [v]) H (!inR v 1 1000000000) := et_not (et_B (ev_callF (ea_cons (ev_var rfl) (ea_cons ev_c (ea_cons ev_c ea_nil))) (rWithinK kv)))
    rcases h with ⟨h, q⟩ | ⟨h, q⟩
    · rw [h] at e1
      exact s_when (b := false) e1 (fun z => by cases z) fun _ H1 g => q H1 g
    · rw [h] at e1
      refine s_when (b := true) e1 (fun _ H1 g => ?_) fun z => by cases z
      refine ⟨_, rfl, by decide, ?_⟩
      exact fmt_n (by decide +kernel) H1 (Ex.refl H1) _ fun H2 g2 => ⟨_, rfl, by decide +kernel, q H2 (g.trans g2)⟩
theorem cal_copied_bounds {f : Addr} {fd : FuncData} (T : Blt mg) (G : Gcl mg cG cs cJ cW) (RB : Rs K mg "NoBound" cN) (c_check_bound : CalX P w K mg base 1 "check_bound" (spCheckBound K cJ cW cN)) (F : C8.Def K mg "copied_bounds" s_copied_bounds f fd) (b : Binds K fd ["bounds"] []) : CalX P w K mg base 2 "copied_bounds" (spCopied K cJ cW cN) := by
  refine calX F b sc_copied_bounds (fun vs H Q E h => ?_) (fun cdv A outer s H vs Q E hr h => ?_)
  · obtain ⟨p, xs, rfl, _⟩ := h
    rfl
  · obtain ⟨p, xs, rfl, hx, hl, h⟩ := h
    refine ⟨_, (pss_cons (ps_if (pt_cmpR op_gt (pe_callB call_len_seq (by rfl) T.b_len boot_len (pa_cons (pv 0) pa_nil)) (C8.pe_gc rfl G.g_MOST_BOUNDS) (nomark _))
    (pss_one (ps_raise rfl (takes_of rfl rfl rfl rfl) (SkE.pmk_own1 PySem.F.excBase_ValueError RB.xP RB.gP RB.kP (raises_own RB.bP RB.tP) rfl (pe_joined (.cons pe_str (.cons (pe_fmt (C8.pe_gc rfl G.g_MOST_BOUNDS)) (.cons pe_str .nil)))))))
    pss_nil)
  (pss_cons (ps_for (passes_of rfl) rfl (pi_or2 (pi_list (pv 0)) (pi_tup (pv 0))) (pg_name (i := 1) sc_copied_bounds.nd rfl (Or.inl rfl))
    (pss_one (ps_expr (pe_cX c_check_bound own_takes hr (by decide) rfl (pa_cons (pv 1) pa_nil)))))
  (pss_one (ps_ret (pe_callTy call_list_of (by rfl) T.b_list boot_list (pa_cons (pv 0) pa_nil)))))), ?_⟩
    have tl : EvT (tTest (tOp (rI0 fun i j => V.bl (decide (j < i))) (tCB (fun xs H Q => ∃ p ys, xs = [.ref p] ∧ (SqL K H p ys ∨ SqT K H p ys) ∧ Q (.int ys.length) H) (tCons (tVar 0) tNil)) (tC (.int 4)))) (start ["bounds"] [.ref p]) H (decide ((4 : Int) < (xs.length : Int))) := et_test (ev_op (ev_lenQ (ev_var rfl) hx) ev_c rv_I0)
    have early : ∀ (h4 : 4 < xs.length), (∀ H2, Ex H H2 → E (.ref cN) none H2) → ∀ H1, Ex H H1 → True := fun _ _ _ _ => True.intro
    rcases h with ⟨bds, ⟨ys, rfl, hb, h4⟩, q⟩ | ⟨h, q⟩
    · have len := Paired.length hb
      refine q_when (b := false) (et_is tl (decide_eq_false (by rw [List.length_map]; omega))) (fun z => by cases z) fun _ H1 e1 => ?_
      refine s_forQ (K := K) (j := 1) (ev_var rfl) (hx.mono e1) (fun i σ' H' => (∃ o, σ' = [some (.ref p), o]) ∧ Ex H1 H') (fun H2 e2 => ⟨⟨none, rfl⟩, e2⟩) (fun i σ' H' _ ⟨_, e2⟩ => hx.mono (e1.trans e2)) (fun _ i σ' H' _ ⟨_, e2⟩ z => ex_l e2 z) (fun i σ' H' _ ⟨_, e2⟩ z => ex_t e2 z) (fun i x σ' H' hx' ⟨⟨o, hσ⟩, e2⟩ => ?_) (fun σ' H' ⟨⟨o, hσ⟩, e2⟩ => ?_)
      · subst hσ
        rw [List.getElem?_map] at hx'
        obtain ⟨y, hy, rfl⟩ := Option.map_eq_some_iff.mp hx'
        obtain ⟨bd, _, hBd⟩ := paired_at hb hy
        exact ⟨_, rfl, _, rfl, .inl ⟨⟨bd, y, rfl, hBd.mono (e1.trans e2)⟩, fun H2 e3 => ⟨⟨_, rfl⟩, e2.trans e3⟩⟩⟩
      · subst hσ
        refine s_retL (el_listQ (ev_var rfl) (hx.mono (e1.trans e2))) fun l H3 nl e3 hl3 => q l H3 (fresh_back (e1.trans e2) nl) ((e1.trans e2).trans e3) hl3
    · by_cases h5 : 4 < xs.length
      · refine q_when (b := true) (et_is tl (decide_eq_true (by omega))) (fun _ H1 e1 => ?_) fun z => by cases z
        refine ⟨_, rfl, by decide, ?_⟩
        exact fmt_n (by decide +kernel) H1 (Ex.refl H1) _ fun H2 g2 => ⟨_, rfl, by decide +kernel, ⟨_, rfl, by decide +kernel, q H2 (e1.trans g2)⟩⟩
      · rcases h with h | ⟨_, i0, v0, hv0, nb, ahead⟩
        · exact absurd h h5
        · refine q_when (b := false) (et_is tl (decide_eq_false (by omega))) (fun z => by cases z) fun _ H1 e1 => ?_
          have hi0 : i0 < xs.length := (List.getElem?_eq_some_iff.mp hv0).1
          refine s_forQ (K := K) (j := 1) (ev_var rfl) (hx.mono e1) (fun i σ' H' => (∃ o, σ' = [some (.ref p), o]) ∧ Ex H1 H' ∧ i ≤ i0) (fun H2 e2 => ⟨⟨none, rfl⟩, e2, Nat.zero_le _⟩) (fun i σ' H' _ ⟨_, e2, _⟩ => hx.mono (e1.trans e2)) (fun _ i σ' H' _ ⟨_, e2, _⟩ z => ex_l e2 z) (fun i σ' H' _ ⟨_, e2, _⟩ z => ex_t e2 z) (fun i x σ' H' hx' ⟨⟨o, hσ⟩, e2, hi⟩ => ?_) (fun σ' H' ⟨_, _, hi⟩ => by omega)
          subst hσ
          by_cases e : i = i0
          · subst e
            rw [hv0] at hx'
            cases hx'
            exact ⟨_, rfl, _, rfl, .inr ⟨nb.mono (e1.trans e2), fun H2 e3 => q H2 ((e1.trans e2).trans e3)⟩⟩
          · exact ⟨_, rfl, _, rfl, .inl ⟨(ahead i x (by omega) hx').mono (e1.trans e2), fun H2 e3 => ⟨⟨_, rfl⟩, e2.trans e3, by omega⟩⟩⟩
end
/-! the gate: what it holds between two calls -/
theorem waitAllV_nn {t c : Int} : ∀ {bvs : List (Bd × VS)} {acc w : Int}, waitAllV t c bvs acc = some w → acc ≤ w
  | [], acc, w, h => by
    cases h
    exact Int.le_refl _
  | q :: r, acc, w, h => by
    rw [waitAllV] at h
    cases hd : dueV q.1 q.2 t c with
    | none =>
      rw [hd] at h
      cases h
    | some n =>
      rw [hd] at h
      have z := waitAllV_nn (show waitAllV t c r (max acc n) = some w from h)
      omega
theorem paired_imp {α β : Type} {R S : α → β → Prop} : ∀ {xs : List α} {ys : List β}, Paired R xs ys → (∀ x y, R x y → S x y) → Paired S xs ys
  | [], [], .nil, _ => .nil
  | _ :: _, _ :: _, .cons r h, k => .cons (k _ _ r) (paired_imp h k)
section
variable {cJM cWM : Addr} {bd : Bd} {vs : VS} {m : Mt} {H H' : Hp} {bvs : List (Bd × VS)} {ms : List Mt}
theorem MtS.there (h : MtS cJM cWM bd vs m H) : ∀ b ∈ foot m, H b ≠ none := by
  obtain ⟨x, ol⟩ := m
  cases bd with
  | jar s f =>
    obtain ⟨h1, dx, lv, mo, h2, h3⟩ := h
    obtain rfl : ol = none := h1
    intro b hb z
    obtain rfl : b = x := by simpa [foot] using hb
    rw [h2] at z
    cases z
  | win mo s =>
    obtain ⟨l, dx, g, tot, rs, h1, h2, ⟨ps, h3, _⟩, h4⟩ := h
    obtain rfl : ol = some l := h1
    intro b hb z
    have hb : b = x ∨ b = l := by simpa [foot] using hb
    rcases hb with rfl | rfl
    · rw [h2] at z
      cases z
    · rw [h3] at z
      cases z
theorem Mts.at (h : Mts cJM cWM bvs ms H) {m : Mt} (hm : m ∈ ms) : ∃ q, q ∈ bvs ∧ MtS cJM cWM q.1 q.2 m H := by
  obtain ⟨j, hj⟩ := List.getElem?_of_mem hm
  have hl : j < bvs.length := by
    rw [← h.len]
    exact (List.getElem?_eq_some_iff.mp hj).1
  exact ⟨bvs[j], List.getElem_mem _, h.st j _ m (List.getElem?_eq_getElem hl) hj⟩
theorem Mts.keep {fo : List Addr} (h : Mts cJM cWM bvs ms H) (k : ∀ b o, b ∉ fo → H b = some o → H' b = some o) (d : ∀ m ∈ ms, ∀ b ∈ foot m, b ∉ fo) (nt : ∀ b ∈ fo, ∀ xs, H b ≠ some (.tup xs)) : Mts cJM cWM bvs ms H' :=
  ⟨h.len, fun j q m h1 h2 => (h.st j q m h1 h2).keep k (d m (List.mem_of_getElem? h2)) nt, h.nd⟩
end
theorem fit_map {bds : List Bd} {vis : VS} {t : Int} (ok : ∀ b ∈ bds, b.ok) (vo : VOk vis) (hn : vis.length ≤ 900) (hu : Upto vis t) : Fit (bds.map fun b => (b, vis)) t := fun q hq => by
  obtain ⟨b, hb, rfl⟩ := List.mem_map.mp hq
  exact ⟨ok b hb, vo, hn, hu⟩
theorem took_map (bds : List Bd) (vis : VS) (t c : Int) : tookV t c (bds.map fun b => (b, vis)) = bds.map fun b => (b, vis ++ [(t, c)]) := by
  rw [tookV, List.map_map]
  rfl
section
variable {cJM cWM : Addr} {b1 b2 : List (Bd × VS)} {m1 m2 : List Mt} {H H' : Hp}
theorem Mts.append (h1 : Mts cJM cWM b1 m1 H) (h2 : Mts cJM cWM b2 m2 H) (ap : ∀ x ∈ m1, ∀ y ∈ m2, ∀ b ∈ foot x, b ∉ foot y) : Mts cJM cWM (b1 ++ b2) (m1 ++ m2) H := by
  have l1 := h1.len
  have get : ∀ {α : Type} (xs ys : List α) (i : Nat) z, (xs ++ ys)[i]? = some z → (i < xs.length ∧ xs[i]? = some z) ∨ (xs.length ≤ i ∧ ys[i - xs.length]? = some z) := fun xs ys i z h => by
    by_cases hi : i < xs.length
    · rw [List.getElem?_append_left hi] at h
      exact .inl ⟨hi, h⟩
    · rw [List.getElem?_append_right (by omega)] at h
      exact .inr ⟨by omega, h⟩
  refine ⟨by rw [List.length_append, List.length_append, h1.len, h2.len], fun j q m e1 e2 => ?_, fun i j mi mj e1 e2 ne b hb hz => ?_⟩
  · rcases get _ _ _ _ e1 with ⟨a1, a2⟩ | ⟨a1, a2⟩ <;> rcases get _ _ _ _ e2 with ⟨c1, c2⟩ | ⟨c1, c2⟩
    · exact h1.st j q m a2 c2
    · omega
    · omega
    · rw [← l1] at a2
      exact h2.st _ q m a2 c2
  · rcases get _ _ _ _ e1 with ⟨a1, a2⟩ | ⟨a1, a2⟩ <;> rcases get _ _ _ _ e2 with ⟨c1, c2⟩ | ⟨c1, c2⟩
    · exact h1.nd i j mi mj a2 c2 ne b hb hz
    · exact ap mi (List.mem_of_getElem? a2) mj (List.mem_of_getElem? c2) b hb hz
    · exact ap mj (List.mem_of_getElem? c2) mi (List.mem_of_getElem? a2) b hz hb
    · exact h2.nd _ _ mi mj a2 c2 (by omega) b hb hz
theorem Mts.left (h : Mts cJM cWM (b1 ++ b2) (m1 ++ m2) H) (l : m1.length = b1.length) : Mts cJM cWM b1 m1 H := by
  have g1 : ∀ {α : Type} {xs ys : List α} {i : Nat} {z : α}, xs[i]? = some z → (xs ++ ys)[i]? = some z := fun h => by
    rw [List.getElem?_append_left (List.getElem?_eq_some_iff.mp h).1]
    exact h
  exact ⟨l, fun j q m e1 e2 => h.st j q m (g1 e1) (g1 e2), fun i j mi mj e1 e2 => h.nd i j mi mj (g1 e1) (g1 e2)⟩
theorem Mts.right (h : Mts cJM cWM (b1 ++ b2) (m1 ++ m2) H) (l : m1.length = b1.length) : Mts cJM cWM b2 m2 H := by
  have g1 : ∀ {α : Type} {xs ys : List α} {i : Nat} {z : α}, ys[i]? = some z → (xs ++ ys)[xs.length + i]? = some z := fun {α xs ys i z} h => by
    rw [List.getElem?_append_right (by omega), Nat.add_sub_cancel_left]
    exact h
  have hl := h.len
  rw [List.length_append, List.length_append] at hl
  refine ⟨by omega, fun j q m e1 e2 => ?_, fun i j mi mj e1 e2 ne => h.nd _ _ mi mj (g1 e1) (g1 e2) (by omega)⟩
  have e3 := g1 (xs := b1) e1
  rw [← l] at e3
  exact h.st _ q m e3 (g1 e2)
theorem Mts.there (h : Mts cJM cWM b1 m1 H) {m : Mt} (hm : m ∈ m1) {b : Addr} (hb : b ∈ foot m) : ∃ o, H b = some o ∧ ∀ xs, o ≠ .tup xs := by
  obtain ⟨q, _, S⟩ := h.at hm
  cases e : H b with
  | none => exact absurd e (S.there b hb)
  | some o => exact ⟨o, rfl, fun xs z => S.nt b hb xs (by rw [e, z])⟩
end
structure GSt where
  own : List Bd
  com : List Bd
  all : VS
  ppl : List (Str × VS)
  last : Int
def findP (p : List (Str × VS)) (n : Str) : Option (Str × VS) := p.find? fun r => decide (r.1 = n)
def visP (p : List (Str × VS)) (n : Str) : VS := match findP p n with
  | some r => r.2
  | none => []
def putP (p : List (Str × VS)) (n : Str) (t c : Int) : List (Str × VS) := match findP p n with
  | some _ => p.map fun r => if r.1 = n then (r.1, r.2 ++ [(t, c)]) else r
  | none => p ++ [(n, [(t, c)])]
def GSt.bO (s : GSt) (n : Str) : List (Bd × VS) := s.own.map fun b => (b, visP s.ppl n)
def GSt.bC (s : GSt) : List (Bd × VS) := s.com.map fun b => (b, s.all)
def GSt.step (s : GSt) (n : Str) (t c : Int) : GSt := ⟨s.own, s.com, s.all ++ [(t, c)], putP s.ppl n t c, t⟩
/-- the first bound that shuts it out -/
def firstNo (t c : Int) : List (Bd × VS) → Nat → Option Nat
  | [], _ => none
  | q :: r, k => if dueV q.1 q.2 t c = some 0 then firstNo t c r (k + 1) else some k
def shutL (w : Str) (k : Nat) (o : Option Int) : List V := [.str "shut", .str w, .int (k : Nat), opV o]
def GSt.tells (s : GSt) (n : Str) (t c : Int) : List V := match firstNo t c (s.bO n) 0 with
  | some k => shutL "own" k (waitAllV t c (s.bO n ++ s.bC) 0)
  | none => match firstNo t c s.bC 0 with
    | some k => shutL "common" k (waitAllV t c (s.bO n ++ s.bC) 0)
    | none => [.str "open"]
def GSt.opens (s : GSt) (n : Str) (t c : Int) : Bool := (firstNo t c (s.bO n) 0).isNone && (firstNo t c s.bC 0).isNone
def GSt.next (s : GSt) (n : Str) (t c : Int) : GSt := if s.opens n t c = true then s.step n t c else s
theorem tells_open {s : GSt} {n : Str} {t c : Int} (h : s.opens n t c = true) : s.tells n t c = [.str "open"] := by
  unfold GSt.opens at h
  rw [Bool.and_eq_true] at h
  unfold GSt.tells
  cases e1 : firstNo t c (s.bO n) 0 with
  | some k => rw [e1] at h; cases h.1
  | none =>
    cases e2 : firstNo t c s.bC 0 with
    | some k => rw [e2] at h; cases h.2
    | none => rfl
theorem tells_shut {s : GSt} {n : Str} {t c : Int} (h : s.opens n t c = false) : ∃ w k, s.tells n t c = shutL w k (waitAllV t c (s.bO n ++ s.bC) 0) ∧ ((w = "own" ∧ firstNo t c (s.bO n) 0 = some k) ∨ (w = "common" ∧ firstNo t c (s.bO n) 0 = none ∧ firstNo t c s.bC 0 = some k)) := by
  unfold GSt.opens at h
  unfold GSt.tells
  cases e1 : firstNo t c (s.bO n) 0 with
  | some k => exact ⟨_, k, rfl, .inl ⟨rfl, rfl⟩⟩
  | none =>
    cases e2 : firstNo t c s.bC 0 with
    | some k => exact ⟨_, k, rfl, .inr ⟨rfl, rfl, rfl⟩⟩
    | none =>
      rw [e1, e2] at h
      cases h
structure GWf (s : GSt) (n : Nat) : Prop where
  okO : ∀ b ∈ s.own, b.ok
  okC : ∀ b ∈ s.com, b.ok
  lO : s.own.length ≤ 4
  lC : s.com.length ≤ 4
  vA : VOk s.all
  uA : Upto s.all s.last
  nA : s.all.length ≤ n
  vP : ∀ p ∈ s.ppl, VOk p.2 ∧ Upto p.2 s.last ∧ p.2.length ≤ n
  nP : s.ppl.length ≤ n
  l0 : 0 ≤ s.last ∧ s.last ≤ 1000000000000
  nd : (s.ppl.map (·.1)).Nodup
theorem findP_some {p : List (Str × VS)} {n : Str} {r : Str × VS} (h : findP p n = some r) : r ∈ p ∧ r.1 = n := by
  unfold findP at h
  exact ⟨List.mem_of_find?_eq_some h, by simpa using List.find?_some h⟩
theorem findP_none {p : List (Str × VS)} {n : Str} (h : findP p n = none) : n ∉ p.map (·.1) := fun z => by
  obtain ⟨r, hr, e⟩ := List.mem_map.mp z
  unfold findP at h
  have := List.find?_eq_none.mp h r hr
  exact this (decide_eq_true e)
theorem visP_ok {s : GSt} {k : Nat} {n : Str} (W : GWf s k) : VOk (visP s.ppl n) ∧ Upto (visP s.ppl n) s.last ∧ (visP s.ppl n).length ≤ k := by
  unfold visP
  cases e : findP s.ppl n with
  | none => exact ⟨⟨fun i h => absurd h (Nat.not_lt_zero _), fun i j _ h => absurd h (Nat.not_lt_zero _)⟩, fun _ h => (by cases h), Nat.zero_le _⟩
  | some r => exact W.vP r (findP_some e).1
theorem putP_keys_some {p : List (Str × VS)} {n : Str} {t c : Int} {r : Str × VS} (h : findP p n = some r) : (putP p n t c).map (·.1) = p.map (·.1) := by
  unfold putP
  rw [h, List.map_map]
  refine List.map_congr_left fun x _ => ?_
  show (if x.1 = n then (x.1, x.2 ++ [(t, c)]) else x).1 = x.1
  split <;> rfl
theorem GWf.fit {s : GSt} {k : Nat} {n : Str} {t : Int} (W : GWf s k) (hk : k ≤ 800) (ht : s.last ≤ t) : Fit (s.bO n ++ s.bC) t := fun q hq => by
  obtain ⟨v1, v2, v3⟩ := visP_ok (n := n) W
  rcases List.mem_append.mp hq with h | h
  · obtain ⟨b, hb, rfl⟩ := List.mem_map.mp h
    exact ⟨W.okO b hb, v1, by show (visP s.ppl n).length ≤ 900; omega, upto_le v2 ht⟩
  · obtain ⟨b, hb, rfl⟩ := List.mem_map.mp h
    have := W.nA
    exact ⟨W.okC b hb, W.vA, by show s.all.length ≤ 900; omega, upto_le W.uA ht⟩
theorem GWf.up {s : GSt} {k j : Nat} (W : GWf s k) (h : k ≤ j) : GWf s j := by
  have h1 := W.nA
  have h2 := W.nP
  exact ⟨W.okO, W.okC, W.lO, W.lC, W.vA, W.uA, by omega, fun p hp => ⟨(W.vP p hp).1, (W.vP p hp).2.1, Nat.le_trans (W.vP p hp).2.2 h⟩, by omega, W.l0, W.nd⟩
theorem GWf.step {s : GSt} {k : Nat} {n : Str} {t c : Int} (W : GWf s k) (ht : s.last ≤ t) (ht2 : t ≤ 1000000000000) (hc : 1 ≤ c) : GWf (s.step n t c) (k + 1) := by
  have h0 := W.l0
  have hA := W.nA
  have hP := W.nP
  have one : ∀ {vs : VS}, VOk vs → Upto vs s.last → vs.length ≤ k → VOk (vs ++ [(t, c)]) ∧ Upto (vs ++ [(t, c)]) t ∧ (vs ++ [(t, c)]).length ≤ k + 1 := fun v u l => ⟨v.snoc (upto_le u ht) hc, upto_snoc (upto_le u ht), by rw [List.length_append]; show _ + 1 ≤ _; omega⟩
  obtain ⟨a1, a2, a3⟩ := one W.vA W.uA W.nA
  refine ⟨W.okO, W.okC, W.lO, W.lC, a1, a2, a3, fun p hp => ?_, ?_, ⟨by show 0 ≤ t; omega, ht2⟩, ?_⟩
  · replace hp : p ∈ putP s.ppl n t c := hp
    unfold putP at hp
    cases e : findP s.ppl n with
    | some r =>
      rw [e] at hp
      obtain ⟨x, hx, rfl⟩ := List.mem_map.mp hp
      obtain ⟨v1, v2, v3⟩ := W.vP x hx
      by_cases hn : x.1 = n
      · rw [if_pos hn]
        exact one v1 v2 v3
      · rw [if_neg hn]
        exact ⟨v1, upto_le v2 ht, by omega⟩
    | none =>
      rw [e] at hp
      rcases List.mem_append.mp hp with hp | hp
      · obtain ⟨v1, v2, v3⟩ := W.vP p hp
        exact ⟨v1, upto_le v2 ht, by omega⟩
      · obtain rfl := List.mem_singleton.mp hp
        exact one (vs := []) ⟨fun i h => absurd h (Nat.not_lt_zero _), fun i j _ h => absurd h (Nat.not_lt_zero _)⟩ (fun _ h => by cases h) (Nat.zero_le _)
  · show (putP s.ppl n t c).length ≤ k + 1
    unfold putP
    cases e : findP s.ppl n with
    | some r =>
      show (List.map _ s.ppl).length ≤ k + 1
      rw [List.length_map]
      omega
    | none =>
      show (s.ppl ++ [_]).length ≤ k + 1
      rw [List.length_append]
      show _ + 1 ≤ k + 1
      omega
  · show ((putP s.ppl n t c).map (·.1)).Nodup
    cases e : findP s.ppl n with
    | some r =>
      rw [putP_keys_some e]
      exact W.nd
    | none =>
      unfold putP
      rw [e]
      show ((s.ppl ++ [(n, [(t, c)])]).map (·.1)).Nodup
      rw [List.map_append]
      exact nd_snoc W.nd (findP_none e)
/-! how many visits a meter keeps -/
def lastOf (vs : VS) : Int := (vs.getD (vs.length - 1) (0, 0)).1
def keptB (bd : Bd) (vs : VS) : Nat := match bd with
  | .jar _ _ => 0
  | .win _ s => (vs.filter fun q => decide (q.1 > lastOf vs - s)).length
theorem wrel_keptN {s g tot : Int} {vs rs : List (Int × Int)} (h : WRel s vs g tot rs) : rs.length = (vs.filter fun q => decide (q.1 > lastOf vs - s)).length := by
  refine Nat.le_antisymm (wrel_kept h) ?_
  obtain ⟨d, hd, hrs, hg, ht, ho, hk⟩ := h.ex
  have hl : rs.length = vs.length - d := by rw [hrs, List.length_drop, tots_len]
  have z : (vs.filter fun q => decide (q.1 > lastOf vs - s)) = ((vs.take d).filter fun q => decide (q.1 > lastOf vs - s)) ++ ((vs.drop d).filter fun q => decide (q.1 > lastOf vs - s)) := by rw [← List.filter_append, List.take_append_drop]
  have e0 : ((vs.take d).filter fun q => decide (q.1 > lastOf vs - s)) = [] := List.filter_eq_nil_iff.mpr fun q hq => by
    obtain ⟨i, hi⟩ := List.getElem?_of_mem hq
    have hid : i < d := by
      have := (List.getElem?_eq_some_iff.mp hi).1
      rw [List.length_take] at this
      omega
    rw [List.getElem?_take, if_pos hid] at hi
    have y := ho i (vs.length - 1) hid rfl
    rw [List.getD_eq_getElem?_getD (l := vs) (i := i), hi] at y
    have y : q.1 + s ≤ lastOf vs := y
    simp only [decide_eq_true_eq]
    omega
  rw [z, e0, List.nil_append]
  have := List.length_filter_le (fun q : Int × Int => decide (q.1 > lastOf vs - s)) (vs.drop d)
  rw [List.length_drop] at this
  omega
def GSt.keptN (s : GSt) : Nat := (s.bC.map fun q => keptB q.1 q.2).sum + (s.ppl.map fun p => (s.own.map fun b => keptB b p.2).sum).sum
/-! the gate: its object, its names, its answers -/
structure GA where
  gt : Addr
  J : Addr
  W : Addr
  JM : Addr
  WM : Addr
structure Pr where
  nm : Str
  vis : VS
  l : Addr
  ms : List Mt
structure GC where
  g : Addr
  lo : Addr
  lc : Addr
  d : Addr
  ys : List Addr
  mC : List Mt
  pr : List Pr
  τ : Addr → Option Nat
structure ClGt (K : PySem.W.Frag) (C : Addr) : Prop where
  cl : Cls K C
  n1 : NoAttr K C "_own"
  n2 : NoAttr K C "_common"
  n3 : NoAttr K C "_meters"
  n4 : NoAttr K C "_last"
def fGt (lo lc d : Addr) (last : Int) : List (Str × V) := [("_own", .ref lo), ("_common", .ref lc), ("_meters", .ref d), ("_last", .int last)]
def kvP (pr : List Pr) : List (Key × V) := pr.map fun r => (Sum.inr r.nm, V.ref r.l)
def pplP (pr : List Pr) : List (Str × VS) := pr.map fun r => (r.nm, r.vis)
structure GateR (A : GA) (H0 : Hp) (st : GSt) (c : GC) (H : Hp) : Prop where
  ob : ∃ dx, H c.g = some (.ins A.gt dx (fGt c.lo c.lc c.d st.last))
  lo : H c.lo = some (.lst (c.ys.map V.ref))
  bO : Paired (fun bd y => BdAt A.J A.W bd y H0) st.own c.ys
  e0 : Ex H0 H
  lc : H c.lc = some (.lst (refs c.mC))
  mC : Mts A.JM A.WM st.bC c.mC H
  dc : H c.d = some (.dK (kvP c.pr))
  pp : st.ppl = pplP c.pr
  el : ∀ r ∈ c.pr, H r.l = some (.lst (refs r.ms))
  em : ∀ r ∈ c.pr, Mts A.JM A.WM (st.own.map fun b => (b, r.vis)) r.ms H
  tg : c.τ c.g = some 0
  tlo : c.τ c.lo = some 1
  tlc : c.τ c.lc = some 1
  td : c.τ c.d = some 2
  tC : ∀ m ∈ c.mC, ∀ b ∈ foot m, c.τ b = some 3
  tl : ∀ r ∈ c.pr, c.τ r.l = some 1
  tm : ∀ (i : Nat) r, c.pr[i]? = some r → ∀ m ∈ r.ms, ∀ b ∈ foot m, c.τ b = some (4 + i)
  kd : ∀ b, c.τ b ≠ none → H0 b = none ∧ ∃ o, H b = some o ∧ ∀ xs, o ≠ .tup xs
theorem GateR.mono {A : GA} {H0 H H' : Hp} {st : GSt} {c : GC} (e : Ex H H') (h : GateR A H0 st c H) : GateR A H0 st c H' :=
  { ob := by
      obtain ⟨dx, z⟩ := h.ob
      exact ⟨dx, e _ _ z⟩
    lo := e _ _ h.lo
    bO := h.bO
    e0 := h.e0.trans e
    lc := e _ _ h.lc
    mC := h.mC.mono e
    dc := e _ _ h.dc
    pp := h.pp
    el := fun r hr => e _ _ (h.el r hr)
    em := fun r hr => (h.em r hr).mono e
    tg := h.tg
    tlo := h.tlo
    tlc := h.tlc
    td := h.td
    tC := h.tC
    tl := h.tl
    tm := h.tm
    kd := fun b hb => by
      obtain ⟨z, o, h1, h2⟩ := h.kd b hb
      exact ⟨z, o, e _ _ h1, h2⟩ }
/-- what is not its own may change, if it is none of what was there at first -/
theorem GateR.keep {A : GA} {H0 H H' : Hp} {st : GSt} {c : GC} {F : Addr → Prop} (h : GateR A H0 st c H) (k : ∀ b o, F b → H b = some o → H' b = some o) (hF : ∀ b, c.τ b ≠ none → F b) (h0 : ∀ b, ¬ F b → H0 b = none) (nt : ∀ b, ¬ F b → ∀ xs, H b ≠ some (.tup xs)) : GateR A H0 st c H' := by
  have tup : ∀ b xs, H b = some (.tup xs) → H' b = some (.tup xs) := fun b xs hb => by
    by_cases f : F b
    · exact k b _ f hb
    · exact absurd hb (nt b f xs)
  have at_ : ∀ b n o, c.τ b = some n → H b = some o → H' b = some o := fun b n o e hb => k b o (hF b (by rw [e]; exact fun z => by cases z)) hb
  have mts : ∀ {bvs : List (Bd × VS)} {ms : List Mt} {n : Nat}, Mts A.JM A.WM bvs ms H → (∀ m ∈ ms, ∀ b ∈ foot m, c.τ b = some n) → Mts A.JM A.WM bvs ms H' := fun {bvs ms n} M t => by
    refine ⟨M.len, fun j q m e1 e2 => ?_, M.nd⟩
    have S := M.st j q m e1 e2
    have tt := t m (List.mem_of_getElem? e2)
    obtain ⟨x, ol⟩ := m
    obtain ⟨bd, vs⟩ := q
    cases bd with
    | jar s f =>
      obtain ⟨h1, dx, lv, mo, h2, h3⟩ := S
      exact ⟨h1, dx, lv, mo, at_ _ _ _ (tt x (by simp [foot])) h2, h3⟩
    | win mo s =>
      obtain ⟨l, dx, g, tot, rs, h1, h2, ⟨ps, h3, h5⟩, h4⟩ := S
      obtain rfl : ol = some l := h1
      refine ⟨l, dx, g, tot, rs, rfl, at_ _ _ _ (tt x (by simp [foot])) h2, ⟨ps, at_ _ _ _ (tt l (by simp [foot])) h3, ?_⟩, h4⟩
      clear h3 h4 h2
      induction h5 with
      | nil => exact .nil
      | cons a _ ih => exact .cons (tup _ _ a) ih
  exact
  { ob := by
      obtain ⟨dx, z⟩ := h.ob
      exact ⟨dx, at_ _ _ _ h.tg z⟩
    lo := at_ _ _ _ h.tlo h.lo
    bO := h.bO
    e0 := fun b o hb => by
      by_cases f : F b
      · exact k b o f (h.e0 _ _ hb)
      · rw [h0 b f] at hb
        cases hb
    lc := at_ _ _ _ h.tlc h.lc
    mC := mts h.mC h.tC
    dc := at_ _ _ _ h.td h.dc
    pp := h.pp
    el := fun r hr => at_ _ _ _ (h.tl r hr) (h.el r hr)
    em := fun r hr => by
      obtain ⟨i, hi⟩ := List.getElem?_of_mem hr
      exact mts (h.em r hr) (h.tm i r hi)
    tg := h.tg
    tlo := h.tlo
    tlc := h.tlc
    td := h.td
    tC := h.tC
    tl := h.tl
    tm := h.tm
    kd := fun b hb => by
      obtain ⟨z, o, h1, h2⟩ := h.kd b hb
      exact ⟨z, o, k b o (hF b hb) h1, h2⟩ }
theorem kvP_at (n : Str) (pr : List Pr) : valV (kvP pr) (Sum.inr n : Key) = (pr.find? fun r => decide (r.nm = n)).map fun r => V.ref r.l := by
  induction pr with
  | nil => rfl
  | cons r pr ih =>
    by_cases e : r.nm = n
    · rw [List.find?_cons_of_pos (by simpa using e)]
      show valV ((Sum.inr r.nm, V.ref r.l) :: kvP pr) (Sum.inr n : Key) = _
      rw [valV_pos (by rw [e])]
      rfl
    · rw [List.find?_cons_of_neg (by simpa using e)]
      show valV ((Sum.inr r.nm, V.ref r.l) :: kvP pr) (Sum.inr n : Key) = _
      rw [valV_neg (fun z => e (by injection z)), ih]
theorem pplP_at (n : Str) (pr : List Pr) : findP (pplP pr) n = (pr.find? fun r => decide (r.nm = n)).map fun r => (r.nm, r.vis) := by
  induction pr with
  | nil => rfl
  | cons r pr ih =>
    by_cases e : r.nm = n
    · rw [List.find?_cons_of_pos (by simpa using e)]
      show List.find? _ ((r.nm, r.vis) :: pplP pr) = _
      rw [List.find?_cons_of_pos (by simpa using e)]
      rfl
    · rw [List.find?_cons_of_neg (by simpa using e)]
      show List.find? _ ((r.nm, r.vis) :: pplP pr) = _
      rw [List.find?_cons_of_neg (by simpa using e)]
      exact ih
/-! names -/
def okS (i : Str) : Bool := (!decide (i.cps.toList < ("a" : Str).cps.toList)) && (!decide (("z" : Str).cps.toList < i.cps.toList))
def isNm (z : Str) : Bool := (decide (1 ≤ z.length) && decide (z.length ≤ 8)) && (List.range z.cps.size).all fun i => okS ⟨#[z.cps.getD i 0]⟩
def NotStr (K : PySem.W.Frag) (H : Hp) (v : V) : Prop := (∃ n : String, (∀ H1, Ex H H1 → TyX K H1 v (.type n)) ∧ kitB n "str" = some false) ∧ ∀ s, v ≠ .str s
def NmK (K : PySem.W.Frag) (H : Hp) (v : V) : Prop := (∃ s : Str, v = .str s ∧ s.length ≤ 1000) ∨ NotStr K H v
theorem NmK.mono {K : PySem.W.Frag} {H H' : Hp} {v : V} (e : Ex H H') (h : NmK K H v) : NmK K H' v := h.imp id fun ⟨⟨n, h1, h2⟩, h3⟩ => ⟨⟨n, fun H1 e1 => h1 H1 (e.trans e1), h2⟩, h3⟩
def isNmV (v : V) : Bool := match v with
  | .str s => isNm s
  | _ => false
theorem isNmV_not {v : V} (h : ∀ s, v ≠ .str s) : isNmV v = false := by
  unfold isNmV
  split
  · exact absurd rfl (h _)
  · rfl
theorem isNmV_str {v : V} (h : isNmV v = true) : ∃ s, v = .str s ∧ isNm s = true := by
  unfold isNmV at h
  split at h
  · exact ⟨_, rfl, h⟩
  · cases h
def RIsNm (K : PySem.W.Frag) (vs : List V) (H : Hp) (v : V) : Prop := ∃ x, vs = [x] ∧ NmK K H x ∧ v = .bl (isNmV x)
/-- what _meters_of tells: the meters of the name, its own ones or new ones -/
def OwnAt (A : GA) (st : GSt) (c : GC) (n : Str) (Hb : Hp) (q : Addr) (ms : List Mt) (H2 : Hp) : Prop := H2 q = some (.lst (refs ms)) ∧ Mts A.JM A.WM (st.bO n) ms H2 ∧
  ((∃ (i : Nat) (r : Pr), c.pr[i]? = some r ∧ r.nm = n ∧ q = r.l ∧ ms = r.ms) ∨ (findP st.ppl n = none ∧ Hb q = none ∧ ∀ m ∈ ms, ∀ b ∈ foot m, Hb b = none ∧ b ≠ q))
def RMof (A : GA) (vs : List V) (H : Hp) (W : V → Hp → Prop) : Prop := ∃ H0 Hb st c n, vs = [.ref c.g, .str n] ∧ GateR A H0 st c H ∧ st.own.length ≤ 100 ∧ Ex Hb H ∧ W = fun v H2 => ∃ q ms, v = .ref q ∧ OwnAt A st c n Hb q ms H2
def RAns (A : GA) (vs : List V) (H : Hp) (W : V → Hp → Prop) : Prop := ∃ H0 st c n q ms t k, vs = [.ref c.g, .ref q, .int t, .int k] ∧ GateR A H0 st c H ∧ H q = some (.lst (refs ms)) ∧ Mts A.JM A.WM (st.bO n) ms H ∧ Mts A.JM A.WM (st.bO n ++ st.bC) (ms ++ c.mC) H ∧
  Fit (st.bO n ++ st.bC) t ∧ (st.bO n ++ st.bC).length ≤ 100 ∧ 1 ≤ k ∧ W = fun v H2 => ∃ p, v = .ref p ∧ H2 p = some (.tup (st.tells n t k))
theorem firstNo_step {t k : Int} {bvs : List (Bd × VS)} {i : Nat} {q : Bd × VS} (h : bvs[i]? = some q) (j : Nat) : firstNo t k (bvs.drop i) j = if dueV q.1 q.2 t k = some 0 then firstNo t k (bvs.drop (i + 1)) (j + 1) else some j := by
  rw [drop_at h]
  rfl
theorem rv_leS (i j : Str) (H : Hp) : RV (fun x y H Q => ∃ i j : Str, x = .str i ∧ y = .str j ∧ Q (.bl (!decide (j.cps.toList < i.cps.toList))) H) (.str i) (.str j) H (.bl (!decide (j.cps.toList < i.cps.toList))) := fun H1 _ Q q => ⟨i, j, rfl, rfl, q H1 (Ex.refl _)⟩
theorem ev_can {K : PySem.W.Frag} {cJM cWM : Addr} {bd : Bd} {vis : VS} {m : Mt} {H : Hp} {σ : L2.St} {i : Nat} {t c : Int} {ta tb tc tx : TE} (S : MtS cJM cWM bd vis m H) (ok : bd.ok) (vok : VOk vis) (vl : vis.length ≤ 900) (up : Upto vis t) (hc : 1 ≤ c) (ha : Ev ta σ H (.ref m.1)) (hb : Ev tb σ H (.int t)) (hd : Ev tc σ H (.int c)) :
    Ev (tOr2 (tMeth cJM "can" (spF (RCanJ cJM)) [] C8.E0 ta (tCons tb (tCons tc tNil))) (tMeth cWM "can" (spF (RCanW cWM)) [] C8.E0 ta (tCons tb (tCons tc tNil)))) σ H (.bl (decide (dueV bd vis t c = some 0))) := by
  cases bd with
  | jar s f =>
    obtain ⟨h1', dx, lv, mo, hx, r⟩ := S
    refine ev_orL (ev_methF ha hx rfl (ea_cons hb (ea_cons hd ea_nil)) fun H1 e => ⟨m.1, dx, s, f, lv, mo, t, c, rfl, e _ _ hx, ⟨ok.2.2.1, ok.2.2.2, r.mm⟩, ?_⟩)
    rw [due_jar r up ok.2.2.1]
    exact congrArg V.bl (decide_eq_decide.mpr (wait_can ok.2.2.1))
  | win mo s =>
    obtain ⟨l, dx, g, tot, rs, h1', hx, hP, r⟩ := S
    refine ev_orR (ev_methF ha hx rfl (ea_cons hb (ea_cons hd ea_nil)) fun H1 e => ⟨m.1, dx, mo, s, l, g, tot, rs, t, c, rfl, e _ _ hx, hP.mono e, r.wok vok (by omega), ?_⟩)
    rw [due_win_is r vok up hc]
section
variable {P : Program} {w : World} {K : PySem.W.Frag} {mg : Str → Option Value} {base : Heap} {cG : Addr} {cs : Nat → Addr} {A : GA}
theorem cal_is_name {f : Addr} {fd : FuncData} (T : Blt mg) (G : Cst mg) (F : C8.Def K mg "_is_name" s_is_name f fd) (b : Binds K fd ["name"] []) : C8.Cal P w K mg base 1 "_is_name" (spF (RIsNm K)) [] := by
  refine calF F b sc_is_name (fun vs H v h => ?_) (fun cdv A outer s H vs v E hr h => ?_)
  · obtain ⟨x, rfl, _⟩ := h
    rfl
  · obtain ⟨x, rfl, h, rfl⟩ := h
    refine ⟨_, (pss_cons (ps_if (PW.pt (pw_or (pt_not (pt_val (pe_callB call_isi (by rfl) T.b_isinstance boot_isinstance (pa_cons (pv 0) (pa_cons (pe_bltn (v := .ty "str") (by rfl) T.b_str boot_str rfl) pa_nil))))) (pw_or1 (pt_not (pt_chain op_le op_le pe_int (pe_callB call_len_str (by rfl) T.b_len boot_len (pa_cons (pv 0) pa_nil)) (C8.pe_gc rfl G.g_LONGEST_NAME))))))
    (pss_one (ps_ret pe_bl))
    pss_nil)
  (pss_one (ps_ret (pe_callB (cr_all rfl) (by rfl) T.b_all (by decide +kernel) (pa_cons (pe_lc (own := [("sign", 1)]) (g := gName 1) rfl sc_is_name.nd (pi_str (pv 0)) (blkOk_by (own := [("sign", 1)]) (N := ["name", "sign"]) (sc := C8.fnScope s_is_name) (by decide +kernel)) (fun _ _ _ _ _ => pg_name (i := 1) sc_is_name.nd rfl (Or.inl rfl)) (fun _ _ _ _ _ => pts_nil) (fun _ _ _ _ _ => (pe_chain op_le_str op_le_str pe_str (pv 1) pe_str))) pa_nil))))), ?_⟩
    rcases h with ⟨z, rfl, hz⟩ | ⟨⟨n, hn, hk⟩, hs⟩
    · have isi : Ev (tCB (rIsi K) (tCons (tVar 0) (tCons (tC (.ty "str")) tNil))) (start ["name"] [.str z]) H (.bl true) := ev_isi (ev_var rfl) ev_c (.ty "str") (fun _ _ => .base (.str z)) (kit_ty (by decide +kernel))
      show Rt _ _ _ (.bl (isNm z))
      unfold isNm
      refine rt_ifseq (b := !(decide (1 ≤ z.length) && decide (z.length ≤ 8))) (et_is (et_or (a := false) (b := !(decide ((1 : Int) ≤ (z.length : Int)) && decide ((z.length : Int) ≤ 8))) (et_not (a := true) (et_B isi)) fun _ => et_not (et_is (et_test (ev_chain ev_c (ev_lenS (ev_var rfl) (by omega)) rv_I0 (fun _ => ev_c) fun _ => rv_I0)) rfl)) ?_) (fun hb => ?_) fun hb => ?_
      · have e1 : decide ((1 : Int) ≤ (z.length : Int)) = decide (1 ≤ z.length) := decide_eq_decide.mpr (by omega)
        have e2 : decide ((z.length : Int) ≤ 8) = decide (z.length ≤ 8) := decide_eq_decide.mpr (by omega)
        rw [e1, e2, Bool.false_or]
      · have e : (decide (1 ≤ z.length) && decide (z.length ≤ 8)) = false := (Bool.not_eq_true' _).mp hb
        rw [e, Bool.false_and]
        exact rt_ret ev_c
      · have e : (decide (1 ≤ z.length) && decide (z.length ≤ 8)) = true := (Bool.not_eq_false' _).mp hb
        rw [e, Bool.true_and]
        have hsz : z.cps.size ≤ 1000 := hz
        refine rt_ret (ev_is (ev_allB (bs := (List.range z.cps.size).map fun i => okS ⟨#[z.cps.getD i 0]⟩) ?_) ?_)
        · refine (evw_lcP (fun i v _ => v = V.bl (okS ⟨#[z.cps.getD i 0]⟩)) (fun i v H1 H2 _ h => h) (fun i v H1 D xs ys _ h => h) (ei_s (ev_var rfl)) (by omega) (fun x => rfl) fun i H1 e1 hi => ?_).imp fun v H1 _ ⟨l, xs, ev, hl, hlen, hP⟩ => ⟨l, ev, ?_⟩
          · exact evw_v (ev_chain ev_c (ev_var rfl) (rv_leS _ _ _) (fun _ => ev_c) fun _ => rv_leS _ _ _) fun _ _ => rfl
          · rw [hl]
            refine congrArg (fun l => some (HO.lst l)) (List.ext_getElem? fun i => ?_)
            rw [List.getElem?_map, List.getElem?_map]
            by_cases hi : i < z.cps.size
            · have hx : xs[i]? = some (xs[i]'(by omega)) := List.getElem?_eq_getElem _
              rw [List.getElem?_range hi, hx, hP i _ hx]
              rfl
            · rw [List.getElem?_eq_none (by omega), List.getElem?_eq_none (by rw [List.length_range]; omega)]
              rfl
        · rw [List.all_map]
          rfl
    · rw [isNmV_not hs]
      exact rt_ifseq (b := true) (et_is (et_or (a := true) (b := true) (et_not (a := false) (et_B (ev_isi (ev_var rfl) ev_c (.ty "str") hn (kit_ty hk)))) fun z => by cases z) rfl) (fun _ => rt_ret ev_c) fun z => by cases z
theorem met_Gate__meters_of {f : Addr} {fd : FuncData} (k : ClGt K A.gt) (c_new_meters : C8.Cal P w K mg base 4 "new_meters" (spW (RNew K A.J A.W A.JM A.WM)) []) (me : Meth K A.gt "_meters_of" f) (F : C8.Fun K "_meters_of" "Gate._meters_of" s_Gate__meters_of f fd) (b : Binds K fd ["self", "name"] []) : C8.Met P w K mg base 5 A.gt "_meters_of" (spW (RMof A)) [] := by
  obtain ⟨cl, n1, n2, n3, n4⟩ := k
  refine metW cl me F b sc_Gate__meters_of (fun vs H v h => ?_) (fun cdv A' outer s H vs W E hr h => ?_)
  · obtain ⟨H0, Hb, st, c, n, rfl, _⟩ := h
    rfl
  · obtain ⟨H0, Hb, st, c, n, rfl, R, hl, eb, rfl⟩ := h
    refine ⟨_, (pss_cons (ps_if (pt_cmp (pc_din (hu_of hr) (pv 1) (pe_fld (pv 0) rfl)))
    (pss_one (ps_ret (pe_dget (hu_of hr) (pe_fld (pv 0) rfl) (pv 1) (fun _ _ => rfl))))
    pss_nil)
  (pss_one (ps_ret (C8.pe_c c_new_meters hr (by decide) rfl (pa_cons (pe_fld (pv 0) rfl) pa_nil))))), ?_⟩
    obtain ⟨dx, ho⟩ := R.ob
    have fm : ∀ (σ : L2.St), σ[0]? = some (some (.ref c.g)) → Ev (tFld K (tVar 0) "_meters") σ H (.ref c.d) := fun σ h0 => ev_fld (ev_var h0) ho cl n3 rfl
    have kv := kvP_at n c.pr
    have pv := pplP_at n c.pr
    rw [← R.pp] at pv
    refine rtw_ifseq (b := (valV (kvP c.pr) (Sum.inr n : Key)).isSome) (et_B (ev_din (k := Sum.inr n) (ev_var rfl) (fm _ rfl) R.dc)) (fun hb => rtw_ret ?_) fun hb => rtw_ret ?_
    · cases e : c.pr.find? fun r => decide (r.nm = n) with
      | none =>
        rw [kv, e] at hb
        cases hb
      | some r =>
        rw [e] at kv pv
        have hr' : r ∈ c.pr := List.mem_of_find?_eq_some e
        have hn : r.nm = n := by simpa using List.find?_some e
        obtain ⟨i, hi⟩ := List.getElem?_of_mem hr'
        refine evw_v (ev_dget (k := Sum.inr n) (fm _ rfl) (ev_var rfl) R.dc kv) fun H1 e1 => ⟨r.l, r.ms, rfl, e1 _ _ (R.el r hr'), ?_, .inl ⟨i, r, hi, hn, rfl, rfl⟩⟩
        have z := (R.em r hr').mono e1
        unfold GSt.bO visP
        rw [pv]
        exact z
    · cases e : c.pr.find? fun r => decide (r.nm = n) with
      | some r =>
        rw [kv, e] at hb
        cases hb
      | none =>
        rw [e] at pv
        refine (evw_callW (W := fun v H2 => ∃ q ms, v = .ref q ∧ H2 q = some (.lst (refs ms)) ∧ Mts A.JM A.WM (st.own.map fun b => (b, [])) ms H2 ∧ (∀ m ∈ ms, ∀ b ∈ foot m, Hb b = none ∧ b ≠ q) ∧ Hb q = none) (ea_cons (ev_fld (ev_var rfl) ho cl n1 rfl) ea_nil) fun H1 e1 => ⟨c.lo, c.ys, st.own, Hb, rfl, sq_of (e1 _ _ R.lo), paired_imp R.bO fun _ _ z => z.mono (R.e0.trans e1), hl, eb.trans e1, rfl⟩).imp fun v H1 _ ⟨q, ms, ev, hq, M, fr, nq⟩ => ⟨q, ms, ev, hq, ?_, .inr ⟨pv, nq, fr⟩⟩
        unfold GSt.bO visP
        rw [pv]
        exact M
theorem ans_inner {cJM cWM : Addr} {bvs : List (Bd × VS)} {mm : List Mt} {H : Hp} {qa : Addr} {t kc : Int} {a0 a1 o6 o7 : Option V} {wh : V} {tr : TS} {W : V → Hp → Prop} (hqa : H qa = some (.lst (refs mm))) (M : Mts cJM cWM bvs mm H) (ft : Fit bvs t) (hk : 1 ≤ kc)
    (ret : ∀ (j : Nat) σ H1, Ex H H1 → firstNo t kc bvs 0 = some j → (∃ o7, σ = [a0, a1, some (.int t), some (.int kc), some wh, some (.ref qa), some (.int (j : Nat)), o7]) → RtW tr σ H1 W) :
    (firstNo t kc bvs 0 = none ∧ NxP (tFor (iEnum K (tCons (tVar 5) tNil)) (gTup K 2 (gCons (gName 6) (gCons (gName 7) gNil))) (tIfS (tNot (tB (tOr2 (tMeth cJM "can" (spF (RCanJ cJM)) [] C8.E0 (tVar 7) (tCons (tVar 2) (tCons (tVar 3) tNil))) (tMeth cWM "can" (spF (RCanW cWM)) [] C8.E0 (tVar 7) (tCons (tVar 2) (tCons (tVar 3) tNil)))))) tr tNext)) [a0, a1, some (.int t), some (.int kc), some wh, some (.ref qa), o6, o7] H fun σ => ∃ o6 o7, σ = [a0, a1, some (.int t), some (.int kc), some wh, some (.ref qa), o6, o7]) ∨
    RtW (tFor (iEnum K (tCons (tVar 5) tNil)) (gTup K 2 (gCons (gName 6) (gCons (gName 7) gNil))) (tIfS (tNot (tB (tOr2 (tMeth cJM "can" (spF (RCanJ cJM)) [] C8.E0 (tVar 7) (tCons (tVar 2) (tCons (tVar 3) tNil))) (tMeth cWM "can" (spF (RCanW cWM)) [] C8.E0 (tVar 7) (tCons (tVar 2) (tCons (tVar 3) tNil)))))) tr tNext)) [a0, a1, some (.int t), some (.int kc), some wh, some (.ref qa), o6, o7] H W := by
  have len : (refs mm).length = bvs.length := by rw [refs, List.length_map, M.len]
  have it := eg_enum (K := K) (σ := [a0, a1, some (.int t), some (.int kc), some wh, some (.ref qa), o6, o7]) (ta := tVar 5) (ev_var rfl) (sq_of hqa)
  have at_ : ∀ (j : Nat) x H1, (refs mm)[j]? = some x → Ex H H1 → ∃ m q, x = .ref m.1 ∧ bvs[j]? = some q ∧ MtS cJM cWM q.1 q.2 m H1 ∧ q ∈ bvs := fun j x H1 hx e => by
    rw [refs, List.getElem?_map] at hx
    obtain ⟨m, hm, rfl⟩ := Option.map_eq_some_iff.mp hx
    have hj : j < bvs.length := by rw [← M.len]; exact (List.getElem?_eq_some_iff.mp hm).1
    exact ⟨m, bvs[j], rfl, List.getElem?_eq_getElem hj, (M.st j _ m (List.getElem?_eq_getElem hj) hm).mono e, List.getElem_mem _⟩
  have can : ∀ (σ : L2.St) H1 m q, MtS cJM cWM q.1 q.2 m H1 → q ∈ bvs → σ[7]? = some (some (.ref m.1)) → σ[2]? = some (some (.int t)) → σ[3]? = some (some (.int kc)) → EvT (tNot (tB (tOr2 (tMeth cJM "can" (spF (RCanJ cJM)) [] C8.E0 (tVar 7) (tCons (tVar 2) (tCons (tVar 3) tNil))) (tMeth cWM "can" (spF (RCanW cWM)) [] C8.E0 (tVar 7) (tCons (tVar 2) (tCons (tVar 3) tNil)))))) σ H1 (!decide (dueV q.1 q.2 t kc = some 0)) := fun σ H1 m q S hq h7 h2 h3 => by
    obtain ⟨ok, vok, vl, up⟩ := ft q hq
    exact et_not (et_B (ev_can (K := K) (i := 0) (tx := tVar 0) S ok vok vl up hk (ev_var h7) (ev_var h2) (ev_var h3)))
  cases hf : firstNo t kc bvs 0 with
  | none =>
    refine .inl ⟨rfl, NxP.imp (nxp_forG (fun j σ => (∃ o6 o7, σ = [a0, a1, some (.int t), some (.int kc), some wh, some (.ref qa), o6, o7]) ∧ firstNo t kc (bvs.drop j) j = none) ⟨⟨_, _, rfl⟩, hf⟩ it fun j σ x H1 hj ⟨⟨p6, p7, hσ⟩, hd⟩ e ⟨T, y, ex, hy, hT⟩ => ?_) fun σ h => h.1⟩
    subst hσ ex
    obtain ⟨m, q, rfl, hq, S, qm⟩ := at_ j y H1 hy e
    rw [firstNo_step hq] at hd
    by_cases h0 : dueV q.1 q.2 t kc = some 0
    · rw [if_pos h0] at hd
      refine gnxp_tup2 hT (nxp_if (b := !decide (dueV q.1 q.2 t kc = some 0)) (can _ H1 m q S qm rfl rfl rfl) (fun hb => ?_) fun _ => nxp_of nx_next ⟨⟨_, _, rfl⟩, hd⟩)
      rw [decide_eq_true h0] at hb
      cases hb
    · rw [if_neg h0] at hd
      cases hd
  | some k =>
    refine .inr (rtwp_forG0 (fun j σ => (∃ o6 o7, σ = [a0, a1, some (.int t), some (.int kc), some wh, some (.ref qa), o6, o7]) ∧ firstNo t kc (bvs.drop j) j = some k) ⟨⟨_, _, rfl⟩, hf⟩ it (fun j σ x H1 hj ⟨⟨p6, p7, hσ⟩, hd⟩ e ⟨T, y, ex, hy, hT⟩ => ?_) fun σ ⟨_, hd⟩ => ?_)
    · subst hσ ex
      obtain ⟨m, q, rfl, hq, S, qm⟩ := at_ j y H1 hy e
      rw [firstNo_step hq] at hd
      by_cases h0 : dueV q.1 q.2 t kc = some 0
      · rw [if_pos h0] at hd
        refine .inl (gnxp_tup2 hT (nxp_if (b := !decide (dueV q.1 q.2 t kc = some 0)) (can _ H1 m q S qm rfl rfl rfl) (fun hb => ?_) fun _ => nxp_of nx_next ⟨⟨_, _, rfl⟩, hd⟩))
        rw [decide_eq_true h0] at hb
        cases hb
      · rw [if_neg h0] at hd
        cases hd
        refine .inr (grtw_tup2 hT (rtw_if (b := !decide (dueV q.1 q.2 t kc = some 0)) (can _ H1 m q S qm rfl rfl rfl) (fun _ => ret k _ H1 e hf ⟨_, rfl⟩) fun hb => ?_))
        rw [decide_eq_false h0] at hb
        cases hb
    · rw [len, List.drop_length] at hd
      cases hd
theorem met_Gate__answer {f : Addr} {fd : FuncData} (T : Blt mg) (k : ClGt K A.gt) (c_wait_for_all : C8.Cal P w K mg base 3 "wait_for_all" (spF (RWaitAll K A.JM A.WM)) []) (t_JarMeter_can : C8.Met P w K mg base 3 A.JM "can" (spF (RCanJ A.JM)) []) (t_WindowMeter_can : C8.Met P w K mg base 3 A.WM "can" (spF (RCanW A.WM)) [])
    (me : Meth K A.gt "_answer" f) (F : C8.Fun K "_answer" "Gate._answer" s_Gate__answer f fd) (b : Binds K fd ["self", "own", "moment", "cost"] []) : C8.Met P w K mg base 4 A.gt "_answer" (spW (RAns A)) [] := by
  obtain ⟨cl, n1, n2, n3, n4⟩ := k
  refine metW cl me F b sc_Gate__answer (fun vs H v h => ?_) (fun cdv A' outer s H vs W E hr h => ?_)
  · obtain ⟨H0, st, c, n, q, ms, t, kc, rfl, _⟩ := h
    rfl
  · obtain ⟨H0, st, c, n, q, ms, t, kc, rfl, R, hq, M1, MM, ft, hlen, hk, rfl⟩ := h
    refine ⟨_, (pss_cons (ps_for PassesOwn.never rfl (pi_tup (pe_tup (pa_cons (pe_tup (pa_cons pe_str (pa_cons (pv 1) pa_nil))) (pa_cons (pe_tup (pa_cons pe_str (pa_cons (pe_fld (pv 0) rfl) pa_nil))) pa_nil)))) (pg_tup rfl (pgs_cons (pg_name (i := 4) sc_Gate__answer.nd rfl (Or.inl rfl)) (pgs_cons (pg_name (i := 5) sc_Gate__answer.nd rfl (Or.inl rfl)) pgs_nil)))
    (pss_one (ps_for PassesOwn.never rfl (pi_enum (by rfl) T.b_enumerate (pa_cons (pv 5) pa_nil)) (pg_tup rfl (pgs_cons (pg_name (i := 6) sc_Gate__answer.nd rfl (Or.inl rfl)) (pgs_cons (pg_name (i := 7) sc_Gate__answer.nd rfl (Or.inl rfl)) pgs_nil)))
      (pss_one (ps_if (pt_not (pt_val (pe_or2 (C8.pe_mt t_JarMeter_can hr (by decide) (pv 7) (pa_cons (pv 2) (pa_cons (pv 3) pa_nil))) (C8.pe_mt t_WindowMeter_can hr (by decide) (pv 7) (pa_cons (pv 2) (pa_cons (pv 3) pa_nil))))))
        (pss_one (ps_ret (pe_tup (pa_cons pe_str (pa_cons (pv 4) (pa_cons (pv 6) (pa_cons (C8.pe_c c_wait_for_all hr (by decide) rfl (pa_cons (pe_op op_cat (pv 1) (pe_fld (pv 0) rfl)) (pa_cons (pv 2) (pa_cons (pv 3) pa_nil)))) pa_nil)))))))
        pss_nil)))))
  (pss_one (ps_ret (pe_tup (pa_cons pe_str pa_nil))))), ?_⟩
    obtain ⟨dx, ho⟩ := R.ob
    have M2 := MM.right M1.len
    have hlc := R.lc
    have fc : ∀ (σ : L2.St) H1, Ex H H1 → σ[0]? = some (some (.ref c.g)) → Ev (tFld K (tVar 0) "_common") σ H1 (.ref c.lc) := fun σ H1 e h0 => ev_fld (ev_var h0) (e _ _ ho) cl n2 rfl
    -- what a shut one tells
    have shut : ∀ (σ : L2.St) H1 (wh : Str) (j : Nat), Ex H H1 → σ[0]? = some (some (.ref c.g)) → σ[1]? = some (some (.ref q)) → σ[2]? = some (some (.int t)) → σ[3]? = some (some (.int kc)) → σ[4]? = some (some (.str wh)) → σ[6]? = some (some (.int (j : Nat))) → st.tells n t kc = shutL wh j (waitAllV t kc (st.bO n ++ st.bC) 0) →
        RtW (tRet (tTup (tCons (tC (.str "shut")) (tCons (tVar 4) (tCons (tVar 6) (tCons (tCall (spF (RWaitAll K A.JM A.WM)) [] C8.E0 (tCons (tOp rCat (tVar 1) (tFld K (tVar 0) "_common")) (tCons (tVar 2) (tCons (tVar 3) tNil)))) tNil)))))) σ H1 fun v H2 => ∃ p, v = .ref p ∧ H2 p = some (.tup (st.tells n t kc)) := fun σ H1 wh j e h0 h1 h2 h3 h4 h6 ht => by
      refine rtw_ret ?_
      rw [ht]
      unfold shutL
      refine evw_tup (eu_tup (ea_cons ev_c (ea_cons (ev_var h4) (ea_cons (ev_var h6) (ea_cons (ev_callL (xs := refs (ms ++ c.mC)) ?_ (ea_cons (ev_var h2) (ea_cons (ev_var h3) ea_nil)) fun p H2 e2 hp => ?_) ea_nil)))) (by simp only [List.length_cons, List.length_nil]; omega))
      · have z := el_cat (σ := σ) (ev_var h1) (fc σ H1 e h0) (e _ _ hq) (e _ _ hlc) (by
          rw [refs, refs, List.length_map, List.length_map, ← List.length_append, MM.len]
          omega)
        unfold refs at z ⊢
        rw [List.map_append]
        exact z
      · exact ⟨p, _, ms ++ c.mC, t, kc, rfl, sq_of hp, MM.mono (e.trans e2), ft, hk, rfl⟩
    refine rtwp_forG (fun i σ => ∃ o4 o5 o6 o7, σ = [some (.ref c.g), some (.ref q), some (.int t), some (.int kc), o4, o5, o6, o7] ∧ (0 < i → firstNo t kc (st.bO n) 0 = none) ∧ (1 < i → firstNo t kc st.bC 0 = none)) ⟨_, _, _, _, rfl, fun h => absurd h (Nat.lt_irrefl _), fun h => by omega⟩
      (eg_pairs (K := K) (x0 := .str "own") (y0 := .ref q) (x1 := .str "common") (y1 := .ref c.lc) (eu_tup (ea_cons ev_c (ea_cons (ev_var rfl) ea_nil)) (by simp only [List.length_cons, List.length_nil]; omega)) (eu_tup (ea_cons ev_c (ea_cons (fc _ _ (Ex.refl _) rfl) ea_nil)) (by simp only [List.length_cons, List.length_nil]; omega))) (fun i σ x H1 hi ⟨o4, o5, o6, o7, hσ, f0, f1⟩ e1 ⟨T', ex, hT⟩ => ?_) fun σ ⟨o4, o5, o6, o7, hσ, f0, f1⟩ => ?_
    · subst hσ ex
      have cs : i = 0 ∨ i = 1 := by omega
      rcases cs with rfl | rfl
      · have z := ans_inner (K := K) (a0 := some (.ref c.g)) (a1 := some (.ref q)) (o6 := o6) (o7 := o7) (wh := .str "own") (e1 _ _ hq) (M1.mono e1) (fun z hz => ft z (List.mem_append_left _ hz)) hk (fun j σ H2 e2 hf ⟨o7, hσ⟩ => by
          subst hσ
          exact shut _ H2 "own" j (e1.trans e2) rfl rfl rfl rfl rfl rfl (by unfold GSt.tells; rw [hf]))
        rcases z with ⟨z1, z2⟩ | z
        · exact .inl (gnxp_tup2 hT (NxP.imp z2 fun σ ⟨o6, o7, hσ⟩ => ⟨_, _, o6, o7, hσ, fun _ => z1, fun h => by omega⟩))
        · exact .inr (grtw_tup2 hT z)
      · have z := ans_inner (K := K) (a0 := some (.ref c.g)) (a1 := some (.ref q)) (o6 := o6) (o7 := o7) (wh := .str "common") (e1 _ _ hlc) (M2.mono e1) (fun z hz => ft z (List.mem_append_right _ hz)) hk (fun j σ H2 e2 hf ⟨o7, hσ⟩ => by
          subst hσ
          exact shut _ H2 "common" j (e1.trans e2) rfl rfl rfl rfl rfl rfl (by unfold GSt.tells; rw [f0 (by omega), hf]))
        rcases z with ⟨z1, z2⟩ | z
        · exact .inl (gnxp_tup2 hT (NxP.imp z2 fun σ ⟨o6, o7, hσ⟩ => ⟨_, _, o6, o7, hσ, fun _ => f0 (by omega), fun _ => z1⟩))
        · exact .inr (grtw_tup2 hT z)
    · subst hσ
      refine rtw_ret ?_
      have : st.tells n t kc = [.str "open"] := by
        unfold GSt.tells
        rw [f0 (by omega), f1 (by omega)]
      rw [this]
      exact evw_tup (eu_tup (ea_cons ev_c ea_nil) (by simp only [List.length_cons, List.length_nil]; omega))
end
/-! the gate: a visit that comes by -/
theorem putK_same {kvs : List (Key × V)} {k : Key} {v : V} (h : ∀ kv ∈ kvs, kv.1 = k → kv.2 = v) (hv : valV kvs k = some v) : putK kvs k v = kvs := by
  unfold putK
  rw [valV_any, hv, if_pos (by rfl)]
  have : kvs.map (fun kv => if kv.1 = k then (kv.1, v) else kv) = kvs.map id := List.map_congr_left fun kv hm => by
    by_cases e : kv.1 = k
    · rw [if_pos e, ← h kv hm e]
      rfl
    · rw [if_neg e]
      rfl
  rw [this, List.map_id]
theorem nodup_at {α β : Type} {f : α → β} {l : List α} (nd : (l.map f).Nodup) {i j : Nat} {x y : α} (hi : l[i]? = some x) (hj : l[j]? = some y) (e : f x = f y) : i = j := by
  obtain ⟨h1, e1⟩ := List.getElem?_eq_some_iff.mp hi
  obtain ⟨h2, e2⟩ := List.getElem?_eq_some_iff.mp hj
  have l1 : i < (l.map f).length := by rw [List.length_map]; exact h1
  have l2 : j < (l.map f).length := by rw [List.length_map]; exact h2
  exact (List.getElem_inj (h₀ := l1) (h₁ := l2) nd).mp (by rw [List.getElem_map, List.getElem_map, e1, e2, e])
def fo9 (c : GC) (ms : List Mt) : List Addr := (ms ++ c.mC).flatMap foot ++ [c.d, c.g]
theorem fo9_in {c : GC} {ms : List Mt} {b : Addr} (h : b ∈ fo9 c ms) : (∃ m ∈ ms ++ c.mC, b ∈ foot m) ∨ b = c.d ∨ b = c.g := by
  rcases List.mem_append.mp h with h | h
  · obtain ⟨m, hm, hb⟩ := List.mem_flatMap.mp h
    exact .inl ⟨m, hm, hb⟩
  · exact .inr (by simpa using h)
theorem mC_feet {A : GA} {H0 H : Hp} {st : GSt} {c : GC} (R : GateR A H0 st c H) {m : Mt} (hm : m ∈ c.mC) {b : Addr} (hb : b ∈ foot m) : c.τ b = some 3 := R.tC m hm b hb
theorem gate_took {A : GA} {H0 H Hm Hf : Hp} {st : GSt} {c : GC} {n : Str} {q : Addr} {ms : List Mt} {t k : Int} {dx : Addr} (R : GateR A H0 st c H) (nd : (st.ppl.map (·.1)).Nodup) (em : Ex H Hm) (O : OwnAt A st c n H q ms Hm) (MM : Mts A.JM A.WM (st.bO n ++ st.bC) (ms ++ c.mC) Hm)
    (kp : ∀ b o, b ∉ fo9 c ms → Hm b = some o → Hf b = some o) (Mf : Mts A.JM A.WM (tookV t k (st.bO n ++ st.bC)) (ms ++ c.mC) Hf) (hd : Hf c.d = some (.dK (putK (kvP c.pr) (Sum.inr n) (.ref q)))) (hg : Hf c.g = some (.ins A.gt dx (fGt c.lo c.lc c.d t))) :
    ∃ c' : GC, c'.g = c.g ∧ (∀ b, c'.τ b ≠ none → c.τ b ≠ none ∨ H b = none) ∧ GateR A H0 (st.step n t k) c' Hf := by
  obtain ⟨hq, MO, own⟩ := O
  have hRd := em _ _ R.dc
  obtain ⟨dx0, hg0⟩ := R.ob
  have hRg := em _ _ hg0
  have ntf : ∀ b ∈ fo9 c ms, ∀ xs, Hm b ≠ some (.tup xs) := fun b hb xs z => by
    rcases fo9_in hb with ⟨m, hm, hb⟩ | rfl | rfl
    · obtain ⟨o, h1, h2⟩ := MM.there hm hb
      rw [h1] at z
      exact h2 xs (by injection z)
    · rw [hRd] at z
      cases z
    · rw [hRg] at z
      cases z
  have eTk : tookV t k (st.bO n ++ st.bC) = tookV t k (st.bO n) ++ tookV t k st.bC := List.map_append
  have lTk : ms.length = (tookV t k (st.bO n)).length := by rw [tookV, List.length_map]; exact MO.len
  have Mf2 := Mf
  rw [eTk] at Mf2
  have el := Mf2.left lTk
  have er := Mf2.right lTk
  have elO : Mts A.JM A.WM (st.own.map fun b => (b, visP st.ppl n ++ [(t, k)])) ms Hf := by
    have : tookV t k (st.bO n) = st.own.map fun b => (b, visP st.ppl n ++ [(t, k)]) := took_map _ _ _ _
    rw [← this]
    exact el
  have erC : Mts A.JM A.WM (st.step n t k).bC c.mC Hf := by
    have : tookV t k st.bC = (st.step n t k).bC := took_map _ _ _ _
    rw [← this]
    exact er
  -- what an address that was tagged holds in the end
  have thereF : ∀ b, (∃ o, Hm b = some o ∧ ∀ xs, o ≠ .tup xs) → ∃ o, Hf b = some o ∧ ∀ xs, o ≠ .tup xs := fun b ⟨o, h1, h2⟩ => by
    by_cases f : b ∈ fo9 c ms
    · rcases fo9_in f with ⟨m, hm, hb⟩ | rfl | rfl
      · exact Mf.there hm hb
      · exact ⟨_, hd, fun xs z => by cases z⟩
      · exact ⟨_, hg, fun xs z => by cases z⟩
    · exact ⟨o, kp b o f h1, h2⟩
  rcases own with ⟨i, r, hi, hn, rfl, rfl⟩ | ⟨hnone, nq, fr⟩
  · -- one that had meters
    have hi2 := (List.getElem?_eq_some_iff.mp hi).1
    have nd2 : (c.pr.map (·.nm)).Nodup := by
      have : st.ppl.map (·.1) = c.pr.map (·.nm) := by
        rw [R.pp, pplP, List.map_map]
        rfl
      rw [← this]
      exact nd
    have rmem := List.mem_of_getElem? hi
    have feet : ∀ m ∈ r.ms ++ c.mC, ∀ b ∈ foot m, c.τ b = some (4 + i) ∨ c.τ b = some 3 := fun m hm b hb => by
      rcases List.mem_append.mp hm with h | h
      · exact .inl (R.tm i r hi m h b hb)
      · exact .inr (R.tC m h b hb)
    have out : ∀ b x, c.τ b = some x → x = 1 ∨ (4 ≤ x ∧ x ≠ 4 + i) → b ∉ fo9 c r.ms := fun b x hx hx2 z => by
      rcases fo9_in z with ⟨m, hm, hb⟩ | rfl | rfl
      · rcases feet m hm b hb with h | h <;> (rw [hx] at h; injection h; omega)
      · rw [R.td] at hx
        injection hx
        omega
      · rw [R.tg] at hx
        injection hx
        omega
    have old : ∀ b x o, c.τ b = some x → x = 1 ∨ (4 ≤ x ∧ x ≠ 4 + i) → H b = some o → Hf b = some o := fun b x o hx hx2 hb => kp b o (out b x hx hx2) (em _ _ hb)
    have hvis : visP st.ppl n = r.vis := by
      have pv := pplP_at n c.pr
      rw [← R.pp] at pv
      cases e : c.pr.find? fun r => decide (r.nm = n) with
      | none =>
        have := List.find?_eq_none.mp e r rmem
        exact absurd (decide_eq_true hn) this
      | some r2 =>
        obtain ⟨j, hj⟩ := List.getElem?_of_mem (List.mem_of_find?_eq_some e)
        have hn2 : r2.nm = n := by simpa using List.find?_some e
        obtain rfl := nodup_at nd2 hi hj (by rw [hn, hn2])
        rw [hi] at hj
        cases hj
        rw [e] at pv
        unfold visP
        rw [pv]
        rfl
    have hfind : ∃ z, findP st.ppl n = some z := by
      rw [R.pp, pplP_at]
      cases e : c.pr.find? fun r => decide (r.nm = n) with
      | none => exact absurd (decide_eq_true hn) (List.find?_eq_none.mp e r rmem)
      | some r2 => exact ⟨_, rfl⟩
    obtain ⟨zf, hzf⟩ := hfind
    -- the new rows
    have setAt : ∀ (j : Nat) (x : Pr), (c.pr.set i ⟨r.nm, r.vis ++ [(t, k)], r.l, r.ms⟩)[j]? = some x → (j = i ∧ x = ⟨r.nm, r.vis ++ [(t, k)], r.l, r.ms⟩) ∨ (j ≠ i ∧ c.pr[j]? = some x) := fun j x h => by
      by_cases e : j = i
      · subst e
        rw [List.getElem?_set_self hi2] at h
        exact .inl ⟨rfl, by injection h with h; exact h.symm⟩
      · rw [List.getElem?_set_ne (by omega)] at h
        exact .inr ⟨e, h⟩
    have kvset : kvP (c.pr.set i ⟨r.nm, r.vis ++ [(t, k)], r.l, r.ms⟩) = kvP c.pr := by
      unfold kvP
      apply List.ext_getElem?
      intro j
      rw [List.getElem?_map, List.getElem?_map]
      by_cases e : i = j
      · subst e
        rw [List.getElem?_set_self hi2, hi]
        rfl
      · rw [List.getElem?_set_ne e]
    have putsame : putK (kvP c.pr) (Sum.inr n : Key) (V.ref r.l) = kvP c.pr := by
      refine putK_same (fun kv hkv e => ?_) ?_
      · obtain ⟨r2, hr2, rfl⟩ := List.mem_map.mp hkv
        obtain ⟨j, hj⟩ := List.getElem?_of_mem hr2
        have hn2 : r2.nm = n := by injection e
        obtain rfl := nodup_at nd2 hi hj (by rw [hn, hn2])
        rw [hi] at hj
        cases hj
        rfl
      · rw [kvP_at]
        cases e : c.pr.find? fun r => decide (r.nm = n) with
        | none => exact absurd (decide_eq_true hn) (List.find?_eq_none.mp e r rmem)
        | some r2 =>
          obtain ⟨j, hj⟩ := List.getElem?_of_mem (List.mem_of_find?_eq_some e)
          have hn2 : r2.nm = n := by simpa using List.find?_some e
          obtain rfl := nodup_at nd2 hi hj (by rw [hn, hn2])
          rw [hi] at hj
          cases hj
          rfl
    refine ⟨{ c with pr := c.pr.set i ⟨r.nm, r.vis ++ [(t, k)], r.l, r.ms⟩ }, rfl, fun b hb => .inl hb, ?_⟩
    exact
    { ob := ⟨dx, hg⟩
      lo := old _ _ _ R.tlo (.inl rfl) R.lo
      bO := R.bO
      e0 := fun b o hb => by
        refine kp b o (fun z => ?_) (em _ _ (R.e0 _ _ hb))
        have : c.τ b ≠ none := by
          rcases fo9_in z with ⟨m, hm, hb⟩ | rfl | rfl
          · rcases feet m hm b hb with h | h <;> (rw [h]; exact fun z => by cases z)
          · rw [R.td]
            exact fun z => by cases z
          · rw [R.tg]
            exact fun z => by cases z
        rw [(R.kd b this).1] at hb
        cases hb
      lc := old _ _ _ R.tlc (.inl rfl) R.lc
      mC := erC
      dc := by
        rw [hd, putsame]
        exact congrArg (fun l => some (HO.dK l)) kvset.symm
      pp := by
        show putP st.ppl n t k = _
        unfold putP
        rw [hzf, R.pp]
        unfold pplP
        apply List.ext_getElem?
        intro j
        rw [List.getElem?_map, List.getElem?_map, List.getElem?_map]
        by_cases e : i = j
        · subst e
          rw [List.getElem?_set_self hi2, hi]
          show some (if r.nm = n then (r.nm, r.vis ++ [(t, k)]) else (r.nm, r.vis)) = some (r.nm, r.vis ++ [(t, k)])
          rw [if_pos hn]
        · rw [List.getElem?_set_ne e]
          cases hj : c.pr[j]? with
          | none => rfl
          | some r2 =>
            show some (if r2.nm = n then (r2.nm, r2.vis ++ [(t, k)]) else (r2.nm, r2.vis)) = some (r2.nm, r2.vis)
            rw [if_neg fun z => e (nodup_at nd2 hi hj (by rw [hn, z]))]
      el := fun x hx => by
        obtain ⟨j, hj⟩ := List.getElem?_of_mem hx
        rcases setAt j x hj with ⟨_, rfl⟩ | ⟨ne, h⟩
        · exact old _ _ _ (R.tl r rmem) (.inl rfl) (R.el r rmem)
        · exact old _ _ _ (R.tl x (List.mem_of_getElem? h)) (.inl rfl) (R.el x (List.mem_of_getElem? h))
      em := fun x hx => by
        obtain ⟨j, hj⟩ := List.getElem?_of_mem hx
        rcases setAt j x hj with ⟨_, rfl⟩ | ⟨ne, h⟩
        · rw [hvis] at elO
          exact elO
        · exact ((R.em x (List.mem_of_getElem? h)).mono em).keep (fo := fo9 c r.ms) kp (fun m hm b hb => out b (4 + j) (R.tm j x h m hm b hb) (.inr ⟨by omega, by omega⟩)) ntf
      tg := R.tg
      tlo := R.tlo
      tlc := R.tlc
      td := R.td
      tC := R.tC
      tl := fun x hx => by
        obtain ⟨j, hj⟩ := List.getElem?_of_mem hx
        rcases setAt j x hj with ⟨_, rfl⟩ | ⟨ne, h⟩
        · exact R.tl r rmem
        · exact R.tl x (List.mem_of_getElem? h)
      tm := fun j x hj => by
        rcases setAt j x hj with ⟨rfl, rfl⟩ | ⟨ne, h⟩
        · exact R.tm j r hi
        · exact R.tm j x h
      kd := fun b hb => by
        obtain ⟨h1, o, h2, h3⟩ := R.kd b hb
        exact ⟨h1, thereF b ⟨o, em _ _ h2, h3⟩⟩ }
  · -- one that had none
    have tn : ∀ b, H b = none → c.τ b = none := fun b hb => by
      cases e : c.τ b with
      | none => rfl
      | some x =>
        obtain ⟨_, o, h, _⟩ := R.kd b (by rw [e]; exact fun z => by cases z)
        rw [hb] at h
        cases h
    have out : ∀ b x, c.τ b = some x → x = 1 ∨ 4 ≤ x → b ∉ fo9 c ms := fun b x hx hx2 z => by
      rcases fo9_in z with ⟨m, hm, hb⟩ | rfl | rfl
      · rcases List.mem_append.mp hm with h | h
        · rw [tn b (fr m h b hb).1] at hx
          cases hx
        · rw [R.tC m h b hb] at hx
          injection hx
          omega
      · rw [R.td] at hx
        injection hx
        omega
      · rw [R.tg] at hx
        injection hx
        omega
    have old : ∀ b x o, c.τ b = some x → x = 1 ∨ 4 ≤ x → H b = some o → Hf b = some o := fun b x o hx hx2 hb => kp b o (out b x hx hx2) (em _ _ hb)
    have qout : q ∉ fo9 c ms := fun z => by
      rcases fo9_in z with ⟨m, hm, hb⟩ | rfl | rfl
      · rcases List.mem_append.mp hm with h | h
        · exact (fr m h q hb).2 rfl
        · have := R.tC m h q hb
          rw [tn q nq] at this
          cases this
      · have := R.td
        rw [tn _ nq] at this
        cases this
      · have := R.tg
        rw [tn _ nq] at this
        cases this
    have hqF := kp q _ qout hq
    have newv : visP st.ppl n = [] := by
      unfold visP
      rw [hnone]
    have getS : ∀ (j : Nat) (x : Pr), (c.pr ++ [⟨n, [(t, k)], q, ms⟩])[j]? = some x → (j < c.pr.length ∧ c.pr[j]? = some x) ∨ (j = c.pr.length ∧ x = ⟨n, [(t, k)], q, ms⟩) := fun j x h => by
      by_cases hj : j < c.pr.length
      · rw [List.getElem?_append_left hj] at h
        exact .inl ⟨hj, h⟩
      · rw [List.getElem?_append_right (by omega)] at h
        have hj0 : j - c.pr.length = 0 := by
          have := (List.getElem?_eq_some_iff.mp h).1
          simp at this
          omega
        rw [hj0] at h
        exact .inr ⟨by omega, by simpa using h.symm⟩
    have kvnone : valV (kvP c.pr) (Sum.inr n : Key) = none := by
      rw [kvP_at]
      rw [R.pp, pplP_at] at hnone
      cases e : c.pr.find? fun r => decide (r.nm = n) with
      | none => rfl
      | some r =>
        rw [e] at hnone
        cases hnone
    let τ' : Addr → Option Nat := fun b => if b ∈ ms.flatMap foot then some (4 + c.pr.length) else if b = q then some 1 else c.τ b
    have τin : ∀ m ∈ ms, ∀ b ∈ foot m, τ' b = some (4 + c.pr.length) := fun m hm b hb => if_pos (List.mem_flatMap.mpr ⟨m, hm, hb⟩)
    have τq : τ' q = some 1 := by
      show (if q ∈ ms.flatMap foot then _ else _) = _
      rw [if_neg, if_pos rfl]
      intro z
      obtain ⟨m, hm, hb⟩ := List.mem_flatMap.mp z
      exact (fr m hm q hb).2 rfl
    have τold : ∀ b, H b ≠ none → τ' b = c.τ b := fun b hb => by
      show (if b ∈ ms.flatMap foot then _ else if b = q then _ else _) = _
      rw [if_neg, if_neg]
      · intro z
        rw [z] at hb
        exact hb nq
      · intro z
        obtain ⟨m, hm, hb2⟩ := List.mem_flatMap.mp z
        exact hb (fr m hm b hb2).1
    have th : ∀ b x, c.τ b = some x → τ' b = some x := fun b x hx => by
      rw [τold b, hx]
      obtain ⟨_, o, h, _⟩ := R.kd b (by rw [hx]; exact fun z => by cases z)
      rw [h]
      exact fun z => by cases z
    refine ⟨{ c with pr := c.pr ++ [⟨n, [(t, k)], q, ms⟩], τ := τ' }, rfl, fun b hb => ?_, ?_⟩
    · cases e : H b with
      | none => exact .inr rfl
      | some o =>
        refine .inl fun z => hb ?_
        show τ' b = none
        rw [τold b (by rw [e]; exact fun z => by cases z), z]
    exact
    { ob := ⟨dx, hg⟩
      lo := old _ _ _ R.tlo (.inl rfl) R.lo
      bO := R.bO
      e0 := fun b o hb => by
        have hbH := R.e0 _ _ hb
        refine kp b o (fun z => ?_) (em _ _ hbH)
        rcases fo9_in z with ⟨m, hm, hb2⟩ | rfl | rfl
        · rcases List.mem_append.mp hm with h | h
          · rw [(fr m h b hb2).1] at hbH
            cases hbH
          · rw [(R.kd b (by rw [R.tC m h b hb2]; exact fun z => by cases z)).1] at hb
            cases hb
        · rw [(R.kd _ (by rw [R.td]; exact fun z => by cases z)).1] at hb
          cases hb
        · rw [(R.kd _ (by rw [R.tg]; exact fun z => by cases z)).1] at hb
          cases hb
      lc := old _ _ _ R.tlc (.inl rfl) R.lc
      mC := erC
      dc := by
        rw [hd, putK_new _ kvnone]
        unfold kvP
        rw [List.map_append]
        rfl
      pp := by
        show putP st.ppl n t k = _
        unfold putP
        rw [hnone, R.pp]
        unfold pplP
        rw [List.map_append]
        rfl
      el := fun x hx => by
        rcases List.mem_append.mp hx with h | h
        · exact old _ _ _ (R.tl x h) (.inl rfl) (R.el x h)
        · obtain rfl := List.mem_singleton.mp h
          exact hqF
      em := fun x hx => by
        rcases List.mem_append.mp hx with h | h
        · obtain ⟨j, hj⟩ := List.getElem?_of_mem h
          exact ((R.em x h).mono em).keep (fo := fo9 c ms) kp (fun m hm b hb => out b (4 + j) (R.tm j x hj m hm b hb) (.inr (by omega))) ntf
        · obtain rfl := List.mem_singleton.mp h
          rw [newv] at elO
          exact elO
      tg := th _ _ R.tg
      tlo := th _ _ R.tlo
      tlc := th _ _ R.tlc
      td := th _ _ R.td
      tC := fun m hm b hb => th _ _ (R.tC m hm b hb)
      tl := fun x hx => by
        rcases List.mem_append.mp hx with h | h
        · exact th _ _ (R.tl x h)
        · obtain rfl := List.mem_singleton.mp h
          exact τq
      tm := fun j x hj => by
        rcases getS j x hj with ⟨_, h⟩ | ⟨rfl, rfl⟩
        · exact fun m hm b hb => th _ _ (R.tm j x h m hm b hb)
        · exact fun m hm b hb => τin m hm b hb
      kd := fun b hb => by
        cases e : H b with
        | some o =>
          have z : c.τ b ≠ none := fun z => hb (by
            show τ' b = none
            rw [τold b (by rw [e]; exact fun z => by cases z), z])
          obtain ⟨h1, o, h2, h3⟩ := R.kd b z
          exact ⟨h1, thereF b ⟨o, em _ _ h2, h3⟩⟩
        | none =>
          refine ⟨fresh_back R.e0 e, ?_⟩
          by_cases f : b ∈ ms.flatMap foot
          · obtain ⟨m, hm, hb2⟩ := List.mem_flatMap.mp f
            exact Mf.there (List.mem_append_left _ hm) hb2
          · by_cases hbq : b = q
            · rw [hbq]
              exact ⟨_, hqF, fun xs z => by cases z⟩
            · refine absurd ?_ hb
              show (if b ∈ ms.flatMap foot then _ else if b = q then _ else c.τ b) = none
              rw [if_neg f, if_neg hbq]
              exact tn b e }
/-! the gate: what it refuses; asked, visited; made -/
def mvI (v : V) : Int := match v with
  | .int i => i
  | _ => 0
/-- which refusal is due -/
def refG (last : Int) (nv mv cv : V) : Option Nat :=
  if isNmV nv = false then some 1 else if inR mv 0 1000000000000 = false then some 2 else if mvI mv < last then some 3 else if inR cv 1 1000000000 = false then some 4 else none
theorem refG_none {last : Int} {nv mv cv : V} (h : refG last nv mv cv = none) : ∃ n t c, nv = .str n ∧ isNm n = true ∧ mv = .int t ∧ 0 ≤ t ∧ t ≤ 1000000000000 ∧ last ≤ t ∧ cv = .int c ∧ 1 ≤ c ∧ c ≤ 1000000000 := by
  unfold refG at h
  by_cases h1 : isNmV nv = false
  · rw [if_pos h1] at h
    cases h
  rw [if_neg h1] at h
  by_cases h2 : inR mv 0 1000000000000 = false
  · rw [if_pos h2] at h
    cases h
  rw [if_neg h2] at h
  by_cases h3 : mvI mv < last
  · rw [if_pos h3] at h
    cases h
  rw [if_neg h3] at h
  by_cases h4 : inR cv 1 1000000000 = false
  · rw [if_pos h4] at h
    cases h
  obtain ⟨n, rfl, hn⟩ := isNmV_str (by simpa using h1)
  obtain ⟨t, rfl, t0, t1⟩ := inR_int (by simpa using h2)
  obtain ⟨c, rfl, c0, c1⟩ := inR_int (by simpa using h4)
  exact ⟨n, t, c, rfl, hn, rfl, t0, t1, by show last ≤ mvI (.int t); omega, rfl, c0, c1⟩
def spGCheck (K : PySem.W.Frag) (A : GA) (cs : Nat → Addr) : Sp := fun vs H Q E => ∃ H0 st c nv mv cv, vs = [.ref c.g, nv, mv, cv] ∧ GateR A H0 st c H ∧ 0 ≤ st.last ∧ st.last ≤ 1000000000000 ∧ NmK K H nv ∧ Kd K H mv ∧ Kd K H cv ∧
  (∀ i, refG st.last nv mv cv = some i → ∀ H2, Ex H H2 → E (.ref (cs i)) none H2) ∧ (refG st.last nv mv cv = none → ∀ H2, Ex H H2 → Q .non H2)
def spGAsk (K : PySem.W.Frag) (A : GA) (cs : Nat → Addr) : Sp := fun vs H Q E => ∃ H0 st c k nv mv cv, vs = [.ref c.g, nv, mv, cv] ∧ GateR A H0 st c H ∧ GWf st k ∧ k ≤ 800 ∧ NmK K H nv ∧ Kd K H mv ∧ Kd K H cv ∧
  (∀ i, refG st.last nv mv cv = some i → ∀ H2, Ex H H2 → E (.ref (cs i)) none H2) ∧
  (∀ n t kc, nv = .str n → mv = .int t → cv = .int kc → refG st.last nv mv cv = none → ∀ H2 p, Ex H H2 → H2 p = some (.tup (st.tells n t kc)) → Q (.ref p) H2)
def spGVisit (K : PySem.W.Frag) (A : GA) (cs : Nat → Addr) : Sp := fun vs H Q E => ∃ H0 st c k nv mv cv, vs = [.ref c.g, nv, mv, cv] ∧ GateR A H0 st c H ∧ GWf st k ∧ k ≤ 800 ∧ NmK K H nv ∧ Kd K H mv ∧ Kd K H cv ∧
  (∀ i, refG st.last nv mv cv = some i → ∀ H2, Ex H H2 → E (.ref (cs i)) none H2) ∧
  (∀ n t kc, nv = .str n → mv = .int t → cv = .int kc → refG st.last nv mv cv = none → ∀ H2 p c', (∀ b o, c.τ b = none → H b = some o → H2 b = some o) → (∀ b, c'.τ b ≠ none → c.τ b ≠ none ∨ H b = none) → c'.g = c.g → GateR A H0 (st.next n t kc) c' H2 → H2 p = some (.tup (st.tells n t kc)) → Q (.ref p) H2)
theorem app_le9 {x y : Str} {a b : Nat} (h1 : x.length ≤ a) (h2 : y.length ≤ b) : (x ++ y).length ≤ a + b := by
  rw [strLen_append]
  omega
theorem fmt_v {n : Int} (h : n.natAbs.log2 < 1920) {H : Hp} {σ : L2.St} {te : TE} (hv : Ev te σ H (.int n)) : Ev (tFmt te) σ H (.str (toString n)) := fun H1 e Q q => hv H1 e _ fun H2 e2 => .inr ⟨n, rfl, h, q H2 e2⟩
section
variable {P : Program} {w : World} {K : PySem.W.Frag} {mg : Str → Option Value} {base : Heap} {cG cJ cW : Addr} {cs : Nat → Addr} {A : GA}
theorem met_Gate__check {f : Addr} {fd : FuncData} (G : Cst mg) (k : ClGt K A.gt) (RN : Rs K mg "NoName" (cs 1)) (RL : Rs K mg "Late" (cs 3)) (c_is_name : C8.Cal P w K mg base 1 "_is_name" (spF (RIsNm K)) []) (c_check_moment : CalX P w K mg base 2 "check_moment" (spChk K (cs 2) 0 1000000000000)) (c_check_cost : CalX P w K mg base 2 "check_cost" (spChk K (cs 4) 1 1000000000))
    (me : Meth K A.gt "_check" f) (F : C8.Fun K "_check" "Gate._check" s_Gate__check f fd) (b : Binds K fd ["self", "name", "moment", "cost"] []) : MetX P w K mg base 3 A.gt "_check" (spGCheck K A cs) := by
  obtain ⟨cl, n1, n2, n3, n4⟩ := k
  refine metX cl me F b sc_Gate__check (fun vs H Q E h => ?_) (fun cdv A' outer s H vs Q E hr h => ?_)
  · obtain ⟨H0, st, c, nv, mv, cv, rfl, _⟩ := h
    rfl
  · obtain ⟨H0, st, c, nv, mv, cv, rfl, R, l0, l1, kn, km, kc, qe, q⟩ := h
    refine ⟨_, (pss_cons (ps_if (pt_not (pt_val (C8.pe_c c_is_name hr (by decide) rfl (pa_cons (pv 1) pa_nil))))
    (pss_one (ps_raise rfl (takes_of rfl rfl rfl rfl) (SkE.pmk_own1 PySem.F.excBase_ValueError RN.xP RN.gP RN.kP (raises_own RN.bP RN.tP) rfl (pe_joined (.cons pe_str (.cons (pe_fmt (C8.pe_gc rfl G.g_LONGEST_NAME)) (.cons pe_str .nil)))))))
    pss_nil)
  (pss_cons (ps_expr (pe_cX c_check_moment own_takes hr (by decide) rfl (pa_cons (pv 2) pa_nil)))
  (pss_cons (ps_if (pt_cmpR op_lt (pv 2) (pe_fld (pv 0) rfl) (nomark _))
    (pss_one (ps_raise rfl (takes_of rfl rfl rfl rfl) (SkE.pmk_own1 PySem.F.excBase_ValueError RL.xP RL.gP RL.kP (raises_own RL.bP RL.tP) rfl (pe_joined (.cons pe_str (.cons (pe_fmt (pe_fld (pv 0) rfl)) .nil))))))
    pss_nil)
  (pss_one (ps_expr (pe_cX c_check_cost own_takes hr (by decide) rfl (pa_cons (pv 3) pa_nil))))))), ?_⟩
    obtain ⟨dx, ho⟩ := R.ob
    refine q_when (b := !isNmV nv) (et_not (et_B (ev_callF (ea_cons (ev_var rfl) ea_nil) fun H1 e => ⟨nv, rfl, kn.mono e, rfl⟩))) (fun hb H1 e1 => ?_) fun hb H1 e1 => ?_
    · have h1 : isNmV nv = false := (Bool.not_eq_true' _).mp hb
      refine ⟨_, rfl, by decide, ?_⟩
      refine fmt_n (by decide +kernel) H1 (Ex.refl H1) _ fun H2 e2 => ⟨_, rfl, by decide +kernel, _, rfl, by decide +kernel, qe 1 ?_ H2 (e1.trans e2)⟩
      unfold refG
      rw [if_pos h1]
    · have h1 : ¬ isNmV nv = false := by
        rw [(Bool.not_eq_false' _).mp hb]
        exact fun z => by cases z
      refine ⟨_, rfl, mv, rfl, km.mono e1, ?_⟩
      cases h2 : inR mv 0 1000000000000 with
      | false =>
        refine .inr ⟨rfl, fun H2 e2 => qe 2 ?_ H2 (e1.trans e2)⟩
        unfold refG
        rw [if_neg h1, if_pos h2]
      | true =>
        obtain ⟨t, rfl, t0, t1⟩ := inR_int h2
        have h2' : ¬ inR (.int t) 0 1000000000000 = false := by rw [h2]; exact fun z => by cases z
        refine .inl ⟨rfl, fun H2 e2 => ?_⟩
        have ho2 := e2 _ _ (e1 _ _ ho)
        have fl : Ev (tFld K (tVar 0) "_last") (start ["self", "name", "moment", "cost"] [.ref c.g, nv, .int t, cv]) H2 (.int st.last) := ev_fld (ev_var rfl) ho2 cl n4 rfl
        have ct : EvT (tTest (tOp (rI0 fun i j => V.bl (decide (i < j))) (tVar 2) (tFld K (tVar 0) "_last"))) (start ["self", "name", "moment", "cost"] [.ref c.g, nv, .int t, cv]) H2 (decide (t < st.last)) := et_test (ev_op (ev_var rfl) fl rv_I0)
        dsimp only
        refine q_when (b := decide (t < st.last)) ct (fun hb2 H3 e3 => ?_) fun hb2 H3 e3 => ?_
        · have lg : st.last.natAbs.log2 < 1920 := by
            have z := Nat.log2_le_self st.last.natAbs
            have : st.last.natAbs < 2 ^ 60 := by omega
            have y : st.last.natAbs.log2 < 60 := by
              by_cases e : st.last.natAbs = 0
              · rw [e]
                decide
              · exact (Nat.log2_lt e).mpr this
            omega
          refine ⟨_, rfl, by decide +kernel, ?_⟩
          refine fmt_v lg fl H3 e3 _ fun H4 e4 => ⟨_, rfl, Nat.le_trans (app_le9 (a := 1000) (by decide +kernel) (int_text_len_1921 lg)) (by decide), qe 3 ?_ H4 (((e1.trans e2).trans e3).trans e4)⟩
          unfold refG
          rw [if_neg h1, if_neg h2', if_pos (show mvI (.int t) < st.last from of_decide_eq_true hb2)]
        · have h3 : ¬ mvI (.int t) < st.last := of_decide_eq_false hb2
          have e03 := (e1.trans e2).trans e3
          refine ⟨_, rfl, cv, rfl, kc.mono e03, ?_⟩
          cases h4 : inR cv 1 1000000000 with
          | false =>
            refine .inr ⟨rfl, fun H4 e4 => qe 4 ?_ H4 (e03.trans e4)⟩
            unfold refG
            rw [if_neg h1, if_neg h2', if_neg h3, if_pos h4]
          | true =>
            refine .inl ⟨rfl, fun H4 e4 => q ?_ H4 (e03.trans e4)⟩
            unfold refG
            rw [if_neg h1, if_neg h2', if_neg h3, if_neg (by rw [h4]; exact fun z => by cases z)]
/-- own meters beside the common ones -/
theorem OwnAt.both {H0 H H2 : Hp} {st : GSt} {c : GC} {n : Str} {q : Addr} {ms : List Mt} (R : GateR A H0 st c H) (e : Ex H H2) (O : OwnAt A st c n H q ms H2) : Mts A.JM A.WM (st.bO n ++ st.bC) (ms ++ c.mC) H2 := by
  refine O.2.1.append (R.mC.mono e) fun x hx y hy b hb hz => ?_
  have tz := R.tC y hy b hz
  rcases O.2.2 with ⟨i, r, hi, _, _, rfl⟩ | ⟨_, _, fr⟩
  · have := R.tm i r hi x hx b hb
    rw [tz] at this
    injection this with this
    omega
  · obtain ⟨_, o, h, _⟩ := R.kd b (by rw [tz]; exact fun z => by cases z)
    rw [(fr x hx b hb).1] at h
    cases h
theorem gl_len {st : GSt} {k : Nat} {n : Str} (W : GWf st k) : (st.bO n ++ st.bC).length ≤ 100 := by
  have h1 := W.lO
  have h2 := W.lC
  have e1 : (st.bO n).length = st.own.length := List.length_map _
  have e2 : st.bC.length = st.com.length := List.length_map _
  rw [List.length_append]
  omega
theorem met_Gate_ask {f : Addr} {fd : FuncData} (k : ClGt K A.gt) (t_Gate__check : MetX P w K mg base 3 A.gt "_check" (spGCheck K A cs)) (t_Gate__meters_of : C8.Met P w K mg base 5 A.gt "_meters_of" (spW (RMof A)) []) (t_Gate__answer : C8.Met P w K mg base 4 A.gt "_answer" (spW (RAns A)) [])
    (me : Meth K A.gt "ask" f) (F : C8.Fun K "ask" "Gate.ask" s_Gate_ask f fd) (b : Binds K fd ["self", "name", "moment", "cost"] []) : MetX P w K mg base 6 A.gt "ask" (spGAsk K A cs) := by
  obtain ⟨cl, n1, n2, n3, n4⟩ := k
  refine metX cl me F b sc_Gate_ask (fun vs H Q E h => ?_) (fun cdv A' outer s H vs Q E hr h => ?_)
  · obtain ⟨H0, st, c, k, nv, mv, cv, rfl, _⟩ := h
    rfl
  · obtain ⟨H0, st, c, k, nv, mv, cv, rfl, R, W, hk, kn, km, kc, qe, q⟩ := h
    refine ⟨_, (pss_cons (ps_expr (pe_mX t_Gate__check own_takes hr (by decide) (pv 0) (pa_cons (pv 1) (pa_cons (pv 2) (pa_cons (pv 3) pa_nil)))))
  (pss_one (ps_ret (C8.pe_mt t_Gate__answer hr (by decide) (pv 0) (pa_cons (C8.pe_mt t_Gate__meters_of hr (by decide) (pv 0) (pa_cons (pv 1) pa_nil)) (pa_cons (pv 2) (pa_cons (pv 3) pa_nil))))))), ?_⟩
    obtain ⟨dx, ho⟩ := R.ob
    refine ⟨_, rfl, c.g, dx, _, rfl, ho, rfl, _, rfl, _, rfl, _, rfl, H0, st, c, nv, mv, cv, rfl, R, W.l0.1, W.l0.2, kn, km, kc, qe, fun hn H1 e1 => ?_⟩
    obtain ⟨n, t, kk, rfl, hnm, rfl, t0, t1, tl, rfl, c0, c1⟩ := refG_none hn
    replace R := R.mono e1
    replace ho := e1 _ _ ho
    have ex : EvW (tMeth A.gt "_meters_of" (spW (RMof A)) [] C8.E0 (tVar 0) (tCons (tVar 1) tNil)) (start ["self", "name", "moment", "cost"] [.ref c.g, .str n, .int t, .int kk]) H1 fun v H2 => ∃ q ms, v = .ref q ∧ OwnAt A st c n H1 q ms H2 :=
      evw_methW (ev_var rfl) ho rfl (ea_cons (ev_var rfl) ea_nil) fun H2 e2 => ⟨H0, H1, st, c, n, rfl, R.mono e2, by have := W.lO; omega, e2, rfl⟩
    refine ⟨_, rfl, c.g, dx, _, rfl, ho, rfl, ?_⟩
    refine ex H1 (Ex.refl _) _ fun v H2 e2 ⟨qa, ms, ev, O⟩ => ?_
    subst ev
    refine ⟨_, rfl, _, rfl, ?_⟩
    refine ⟨fun v H3 => ∃ p, v = .ref p ∧ H3 p = some (.tup (st.tells n t kk)), fun H3 e3 => ⟨H0, st, c, n, qa, ms, t, kk, rfl, (R.mono e2).mono e3, e3 _ _ O.1, O.2.1.mono e3, (O.both R e2).mono e3, W.fit hk tl, gl_len W, c0, rfl⟩, fun v H3 e3 ⟨p, ev, hp⟩ => ?_⟩
    subst ev
    exact q n t kk rfl rfl rfl hn H3 p ((e1.trans e2).trans e3) hp
theorem met_Gate_visit {f : Addr} {fd : FuncData} (k : ClGt K A.gt) (t_Gate_ask : MetX P w K mg base 6 A.gt "ask" (spGAsk K A cs)) (t_Gate__meters_of : C8.Met P w K mg base 5 A.gt "_meters_of" (spW (RMof A)) []) (c_take_by_all : C8.Cal P w K mg base 3 "take_by_all" (spTakeAll K A.JM A.WM) [])
    (me : Meth K A.gt "visit" f) (F : C8.Fun K "visit" "Gate.visit" s_Gate_visit f fd) (b : Binds K fd ["self", "name", "moment", "cost"] []) : MetX P w K mg base 7 A.gt "visit" (spGVisit K A cs) := by
  obtain ⟨cl, n1, n2, n3, n4⟩ := k
  refine metX cl me F b sc_Gate_visit (fun vs H Q E h => ?_) (fun cdv A' outer s H vs Q E hr h => ?_)
  · obtain ⟨H0, st, c, k, nv, mv, cv, rfl, _⟩ := h
    rfl
  · obtain ⟨H0, st, c, k, nv, mv, cv, rfl, R, W, hk, kn, km, kc, qe, q⟩ := h
    refine ⟨_, (pss_cons (ps_set (i := 4) sc_Gate_visit.nd rfl (Or.inl rfl) (pe_mX t_Gate_ask own_takes hr (by decide) (pv 0) (pa_cons (pv 1) (pa_cons (pv 2) (pa_cons (pv 3) pa_nil)))))
  (pss_cons (ps_if (pt_cmpR op_eq (pe_ix ix_tup (pv 4) pe_int (fun _ _ => rfl)) pe_str (nomark _))
    (pss_cons (ps_set (i := 5) sc_Gate_visit.nd rfl (Or.inl rfl) (C8.pe_mt t_Gate__meters_of hr (by decide) (pv 0) (pa_cons (pv 1) pa_nil)))
    (pss_cons (ps_expr (C8.pe_c c_take_by_all hr (by decide) rfl (pa_cons (pe_op op_cat (pv 5) (pe_fld (pv 0) rfl)) (pa_cons (pv 2) (pa_cons (pv 3) pa_nil)))))
    (pss_cons (ps_dput (hu_of hr) (pe_fld (pv 0) rfl) (pv 1) (pv 5) rfl)
    (pss_one (ps_fld (pv 0) (pv 2) rfl)))))
    pss_nil)
  (pss_one (ps_ret (pv 4))))), ?_⟩
    obtain ⟨dx, ho⟩ := R.ob
    refine ⟨_, rfl, c.g, dx, _, rfl, ho, rfl, _, rfl, _, rfl, _, rfl, H0, st, c, k, nv, mv, cv, rfl, R, W, hk, kn, km, kc, qe, fun n t kk en et ek hn H1 p e1 hp => ?_⟩
    obtain ⟨n, t, kk, rfl, hnm, rfl, t0, t1, tl, rfl, c0, c1⟩ := refG_none hn
    cases en
    cases et
    cases ek
    have R1 := R.mono e1
    have ho1 := e1 _ _ ho
    cases hop : st.opens n t kk with
    | false =>
      obtain ⟨w9, j, ht, _⟩ := tells_shut hop
      refine q_when (b := false) (et_is (et_test (ev_op (ev_ixT (v := .str "shut") (ev_var (v := .ref p) rfl) ev_c (st_of hp) (by rw [ht]; rfl)) ev_c (rv_eq rfl))) (by decide)) (fun z => by cases z) fun _ H2 e2 => ?_
      refine s_ret (ev_var (v := .ref p) rfl) fun H3 e3 => ?_
      have e03 := (e1.trans e2).trans e3
      refine q n t kk rfl rfl rfl hn H3 p c (fun b o _ hb => e03 _ _ hb) (fun b hb => .inl hb) rfl ?_ (e3 _ _ (e2 _ _ hp))
      unfold GSt.next
      rw [if_neg (by rw [hop]; exact fun z => by cases z)]
      exact R.mono e03
    | true =>
      have ht := tells_open hop
      refine q_when (b := true) (et_is (et_test (ev_op (ev_ixT (v := .str "open") (ev_var (v := .ref p) rfl) ev_c (st_of hp) (by rw [ht]; rfl)) ev_c (rv_eq rfl))) (by decide)) (fun _ H2 e2 => ?_) fun z => by cases z
      have R2 := R1.mono e2
      have ho2 := e2 _ _ ho1
      have ex : EvW (tMeth A.gt "_meters_of" (spW (RMof A)) [] C8.E0 (tVar 0) (tCons (tVar 1) tNil)) ([some (.ref c.g), some (.str n), some (.int t), some (.int kk), some (.ref p), none] : L2.St) H2 fun v H3 => ∃ q ms, v = .ref q ∧ OwnAt A st c n H2 q ms H3 :=
        evw_methW (ev_var rfl) ho2 rfl (ea_cons (ev_var rfl) ea_nil) fun H3 e3 => ⟨H0, H2, st, c, n, rfl, R2.mono e3, by have := W.lO; omega, e3, rfl⟩
      refine EvW.go ex fun v H3 e3 ⟨qa, ms, ev, O⟩ => ?_
      subst ev
      have R3 := R2.mono e3
      have ho3 := e3 _ _ ho2
      have MM := O.both R2 e3
      -- take_by_all(own + self._common, moment, cost)
      have cat := el_cat (σ := [some (.ref c.g), some (.str n), some (.int t), some (.int kk), some (.ref p), some (.ref qa)]) (ta := tVar 5) (tb := tFld K (tVar 0) "_common") (ev_var rfl) (ev_fld (ev_var rfl) ho3 cl n2 rfl) O.1 R3.lc (by
        have := MM.len
        have := gl_len (n := n) W
        rw [refs, refs, List.length_map, List.length_map, ← List.length_append]
        omega)
      refine cat H3 (Ex.refl _) _ fun pl H4 npl e4 hpl => ?_
      have MM4 := MM.mono e4
      refine ⟨_, rfl, _, rfl, pl, st.bO n ++ st.bC, ms ++ c.mC, t, kk, rfl, ?_, MM4, W.fit hk tl, c0, fun m hm z => ?_, fun H5 k5 M5 => ?_⟩
      · have := sq_of (K := K) hpl
        unfold refs at this ⊢
        rw [List.map_append]
        exact this
      · obtain ⟨o, h, _⟩ := MM.there hm z
        rw [npl] at h
        cases h
      · have dout : ∀ b x, c.τ b = some x → x ≠ 3 → x < 4 → ∀ m ∈ ms ++ c.mC, b ∉ foot m := fun b x hx h3 h4 m hm hb => by
          rcases List.mem_append.mp hm with h | h
          · rcases O.2.2 with ⟨i, r, hi, _, _, rfl⟩ | ⟨_, _, fr⟩
            · have := R.tm i r hi m h b hb
              rw [hx] at this
              injection this
              omega
            · obtain ⟨_, o, hh, _⟩ := R2.kd b (by rw [hx]; exact fun z => by cases z)
              rw [(fr m h b hb).1] at hh
              cases hh
          · have := R.tC m h b hb
            rw [hx] at this
            injection this
            omega
        have e24 := e3.trans e4
        have ho5 := k5 _ _ (dout _ _ R.tg (by omega) (by omega)) (e24 _ _ ho2)
        have hd5 := k5 _ _ (dout _ _ R.td (by omega) (by omega)) (e24 _ _ R2.dc)
        have ngd : c.g ≠ c.d := fun z => by
          have := R.tg
          rw [z, R.td] at this
          cases this
        -- self._meters[name] = own
        refine ⟨_, rfl, _, rfl, c.g, A.gt, dx, _, _, rfl, ho5, cl, n3, rfl, _, rfl, c.d, _, rfl, DPut.k (k := Sum.inr n) hd5 ?_, ?_⟩
        · have h1 := W.nP
          rw [R.pp] at h1
          unfold pplP at h1
          rw [List.length_map] at h1
          unfold kvP
          rw [List.length_map]
          exact sz_lt (by omega)
        · have ho6 : (upd H5 c.d (.dK (putK (kvP c.pr) (Sum.inr n) (.ref qa)))) c.g = some (.ins A.gt dx (fGt c.lo c.lc c.d st.last)) := by
            rw [upd_ne ngd]
            exact ho5
          refine s_fldst (ev_var (v := .int t) rfl) (ev_var (v := .ref c.g) rfl) ho6 cl n4 (by show 4 < 1000; decide) fun H7 e7 => ?_
          -- the end
          have O4 : OwnAt A st c n H2 qa ms H4 := ⟨e4 _ _ O.1, O.2.1.mono e4, O.2.2⟩
          have em : Ex H2 H4 := e24
          have keep : ∀ b o, b ∉ fo9 c ms → H4 b = some o → (upd H7 c.g (.ins A.gt dx (putF "_last" (.int t) (fGt c.lo c.lc c.d st.last)))) b = some o := fun b o nb hb => by
            have n1' : b ≠ c.g := fun z => nb (by unfold fo9; rw [z]; simp)
            have n2' : b ≠ c.d := fun z => nb (by unfold fo9; rw [z]; simp)
            have n3' : ∀ m ∈ ms ++ c.mC, b ∉ foot m := fun m hm z => nb (List.mem_append_left _ (List.mem_flatMap.mpr ⟨m, hm, z⟩))
            rw [upd_ne n1']
            refine e7 _ _ ?_
            rw [upd_ne n2']
            exact k5 b o n3' hb
          have M7 : Mts A.JM A.WM (tookV t kk (st.bO n ++ st.bC)) (ms ++ c.mC) (upd H7 c.g (.ins A.gt dx (putF "_last" (.int t) (fGt c.lo c.lc c.d st.last)))) := by
            have s1 := M5.keep (H' := upd H5 c.d (.dK (putK (kvP c.pr) (Sum.inr n) (.ref qa)))) (fo := [c.d]) (fun b o nb hb => by
              rw [upd_ne (fun z => nb (by rw [z]; simp))]
              exact hb) (fun m hm b hb z => by
                obtain rfl : b = c.d := by simpa using z
                exact dout _ _ R.td (by omega) (by omega) m hm hb) (fun b hb xs z => by
                obtain rfl : b = c.d := by simpa using hb
                rw [hd5] at z
                cases z)
            exact (s1.mono e7).keep (fo := [c.g]) (fun b o nb hb => by
              rw [upd_ne (fun z => nb (by rw [z]; simp))]
              exact hb) (fun m hm b hb z => by
                obtain rfl : b = c.g := by simpa using z
                exact dout _ _ R.tg (by omega) (by omega) m hm hb) (fun b hb xs z => by
                obtain rfl : b = c.g := by simpa using hb
                rw [e7 _ _ ho6] at z
                cases z)
          obtain ⟨c', hg', hτ, R'⟩ := gate_took (t := t) (k := kk) R2 W.nd em O4 MM4 keep M7 (by
            rw [upd_ne ngd.symm]
            exact e7 _ _ upd_same) (by
            rw [upd_same]
            rfl)
          generalize hHf : upd H7 c.g (.ins A.gt dx (putF "_last" (.int t) (fGt c.lo c.lc c.d st.last))) = Hf at keep M7 R' ⊢
          have e02 := e1.trans e2
          have fr0 : ∀ b, H2 b = none → H b = none := fun b hb => fresh_back e02 hb
          refine s_ret (ev_var (v := .ref p) rfl) fun H8 e8 => q n t kk rfl rfl rfl hn H8 p c' (fun b o hb ho => ?_) (fun b hb => (hτ b hb).imp id (fr0 b)) hg' ?_ ?_
          · refine e8 _ _ (keep b o (fun z => ?_) (em _ _ (e02 _ _ ho)))
            rcases fo9_in z with ⟨m, hm, hb2⟩ | rfl | rfl
            · rcases List.mem_append.mp hm with h | h
              · rcases O.2.2 with ⟨i, r, hi, _, _, rfl⟩ | ⟨_, _, fr⟩
                · rw [R.tm i r hi m h b hb2] at hb
                  cases hb
                · rw [fr0 b (fr m h b hb2).1] at ho
                  cases ho
              · rw [R.tC m h b hb2] at hb
                cases hb
            · rw [R.td] at hb
              cases hb
            · rw [R.tg] at hb
              cases hb
          · unfold GSt.next
            rw [if_pos hop]
            exact R'.mono e8
          · refine e8 _ _ (keep p _ (fun z => ?_) (em _ _ (e2 _ _ hp)))
            rcases fo9_in z with ⟨m, hm, hb2⟩ | rfl | rfl
            · obtain ⟨o, h, hh⟩ := MM4.there hm hb2
              rw [em _ _ (e2 _ _ hp)] at h
              injection h with h
              exact hh _ h.symm
            · have := e2 _ _ hp
              rw [R2.dc] at this
              cases this
            · rw [ho1] at hp
              cases hp
end
/-! the gate: made; its names; what it keeps -/
theorem tif_go {t : TT} {ta tb : TE} {σ : L2.St} {H : Hp} {Q : VK} {b : Bool} (h : EvT t σ H b) (h1 : b = true → ∀ H1, Ex H H1 → ta σ H1 Q) (h2 : b = false → ∀ H1, Ex H H1 → tb σ H1 Q) : tIf t ta tb σ H Q := h H (Ex.refl H) _ fun H1 e => by
  cases b with
  | true =>
    show ta σ H1 Q
    exact h1 rfl H1 e
  | false =>
    show tb σ H1 Q
    exact h2 rfl H1 e
theorem BadBs.mono {K : PySem.W.Frag} {cJ cW : Addr} {xs : List V} {H H' : Hp} (e : Ex H H') (h : BadBs K cJ cW xs H) : BadBs K cJ cW xs H' := h.imp id fun ⟨z, i, u, z1, z2, z3⟩ => ⟨z, i, u, z1, z2.mono e, fun j u' hj hu => (z3 j u' hj hu).mono e⟩
theorem GoodBs.mono {K : PySem.W.Frag} {cJ cW : Addr} {xs : List V} {bds : List Bd} {H H' : Hp} (e : Ex H H') (h : GoodBs K cJ cW xs bds H) : GoodBs K cJ cW xs bds H' := by
  obtain ⟨ys, h1, h2, h3⟩ := h
  exact ⟨ys, h1, paired_imp h2 fun _ _ z => z.mono e, h3⟩
def gst0 (o c : List Bd) : GSt := ⟨o, c, [], [], 0⟩
def spGInit (K : PySem.W.Frag) (A : GA) (cN : Addr) : Sp := fun vs H Q E => ∃ H0 x dx p xs cv, vs = [.ref x, .ref p, cv] ∧ H x = some (.ins A.gt dx []) ∧ H0 x = none ∧ Ex H0 H ∧ Sq K H0 p xs ∧ xs.length ≤ 1000 ∧
  ((BadBs K A.J A.W xs H0 ∧ ∀ H2, Ex H0 H2 → E (.ref cN) none H2) ∨ ∃ bO, GoodBs K A.J A.W xs bO H0 ∧
    ((cv = .non ∧ ∀ H2 c, Ex H0 H2 → c.g = x → c.ys.map V.ref = xs → GateR A H0 (gst0 bO []) c H2 → Q .non H2) ∨ ∃ p2 xs2, cv = .ref p2 ∧ Sq K H0 p2 xs2 ∧ xs2.length ≤ 1000 ∧
      ((BadBs K A.J A.W xs2 H0 ∧ ∀ H2, Ex H0 H2 → E (.ref cN) none H2) ∨ ∃ bC, GoodBs K A.J A.W xs2 bC H0 ∧ ∀ H2 c, Ex H0 H2 → c.g = x → c.ys.map V.ref = xs → GateR A H0 (gst0 bO bC) c H2 → Q .non H2)))
def RNames (A : GA) (vs : List V) (H : Hp) (W : V → Hp → Prop) : Prop := ∃ H0 st c, vs = [.ref c.g] ∧ GateR A H0 st c H ∧ st.ppl.length < 64 ∧ W = fun v H2 => ∃ p ys, v = .ref p ∧ H2 p = some (.lst (ys.map V.str)) ∧ ys.Perm (st.ppl.map (·.1)) ∧ sortedS ys = true
def RKeptG (A : GA) (vs : List V) (H : Hp) (v : V) : Prop := ∃ H0 st c k, vs = [.ref c.g] ∧ GateR A H0 st c H ∧ GWf st k ∧ k ≤ 800 ∧ v = .int (st.keptN : Nat)
theorem GateR.rebase {A : GA} {H0 H1 H : Hp} {st : GSt} {c : GC} (R : GateR A H1 st c H) (e : Ex H0 H1) (b : Paired (fun bd y => BdAt A.J A.W bd y H0) st.own c.ys) : GateR A H0 st c H :=
  { R with
    bO := b
    e0 := e.trans R.e0
    kd := fun b hb => ⟨fresh_back e (R.kd b hb).1, (R.kd b hb).2⟩ }
section
variable {P : Program} {w : World} {K : PySem.W.Frag} {mg : Str → Option Value} {base : Heap} {cN : Addr} {A : GA}
theorem init_end {H0 H3 : Hp} {x dx lo lc : Addr} {ys : List Addr} {bO bC : List Bd} {mC : List Mt} {σ : L2.St} {D : Ends} (cl : Cls K A.gt) (n3 : NoAttr K A.gt "_meters") (n4 : NoAttr K A.gt "_last") (h0 : σ[0]? = some (some (.ref x))) (hx : H3 x = some (.ins A.gt dx [("_own", .ref lo), ("_common", .ref lc)])) (e : Ex H0 H3) (nx : H0 x = none)
    (hlo : H3 lo = some (.lst (ys.map V.ref))) (hb : Paired (fun bd y => BdAt A.J A.W bd y H0) bO ys) (nlo : H0 lo = none) (hlc : H3 lc = some (.lst (refs mC))) (nlc : H0 lc = none) (M : Mts A.JM A.WM (bC.map fun b => (b, [])) mC H3) (fr : ∀ m ∈ mC, ∀ b ∈ foot m, H0 b = none ∧ b ≠ x ∧ b ≠ lo ∧ b ≠ lc)
    (q : ∀ H2 c, Ex H0 H2 → c.g = x → c.ys = ys → GateR A H0 (gst0 bO bC) c H2 → D.nx σ H2) : tSeq (sFld K (tVar 0) (fun _ H Q => ∀ d, H d = none → Q (.ref d) (upd H d (.dK []))) "_meters") (sFld K (tVar 0) (tC (.int 0)) "_last") D σ H3 := by
  intro d nd
  have nxd : x ≠ d := ne_of_none hx nd
  refine ⟨_, h0, x, A.gt, dx, _, rfl, by rw [upd_ne nxd]; exact hx, cl, n3, by show 2 < 1000; decide, ?_⟩
  refine ⟨_, h0, x, A.gt, dx, _, rfl, upd_same, cl, n4, by show 3 < 1000; decide, ?_⟩
  generalize hHf : upd (upd (upd H3 d (.dK [])) x (.ins A.gt dx (putF "_meters" (.ref d) [("_own", .ref lo), ("_common", .ref lc)]))) x (.ins A.gt dx (putF "_last" (.int 0) (putF "_meters" (.ref d) [("_own", .ref lo), ("_common", .ref lc)]))) = Hf
  have kp : ∀ b o, b ∉ [x, d] → H3 b = some o → Hf b = some o := fun b o nb hb => by
    rw [← hHf, upd_ne (fun z => nb (by rw [z]; simp)), upd_ne (fun z => nb (by rw [z]; simp)), upd_ne (fun z => nb (by rw [z]; simp))]
    exact hb
  have fx : Hf x = some (.ins A.gt dx (fGt lo lc d 0)) := by
    rw [← hHf, upd_same]
    rfl
  have fd : Hf d = some (.dK []) := by
    rw [← hHf, upd_ne nxd.symm, upd_ne nxd.symm, upd_same]
  have nd0 : H0 d = none := fresh_back e nd
  have xlo : lo ≠ x := fun z => by
    rw [z, hx] at hlo
    cases hlo
  have xlc : lc ≠ x := fun z => by
    rw [z, hx] at hlc
    cases hlc
  have dlo : lo ≠ d := ne_of_none hlo nd
  have dlc : lc ≠ d := ne_of_none hlc nd
  have fd' : ∀ m ∈ mC, ∀ b ∈ foot m, b ≠ d := fun m hm b hb z => by
    obtain ⟨o, h, _⟩ := M.there hm hb
    rw [z, nd] at h
    cases h
  have olo : lo ∉ [x, d] := fun z => by
    rcases List.mem_cons.mp z with z | z
    · exact xlo z
    · exact dlo (by simpa using z)
  have olc : lc ∉ [x, d] := fun z => by
    rcases List.mem_cons.mp z with z | z
    · exact xlc z
    · exact dlc (by simpa using z)
  have e0 : Ex H0 Hf := fun b o hb => kp b o (fun z => by
    rcases List.mem_cons.mp z with z | z
    · rw [z, nx] at hb
      cases hb
    · obtain rfl : b = d := by simpa using z
      rw [nd0] at hb
      cases hb) (e _ _ hb)
  have Mf := M.keep (H' := Hf) (fo := [x, d]) kp (fun m hm b hb z => by
    rcases List.mem_cons.mp z with z | z
    · exact (fr m hm b hb).2.1 z
    · exact fd' m hm b hb (by simpa using z)) (fun b hb xs z => by
    rcases List.mem_cons.mp hb with h | h
    · rw [h, hx] at z
      cases z
    · obtain rfl : b = d := by simpa using h
      rw [nd] at z
      cases z)
  let τ : Addr → Option Nat := fun b => if b = x then some 0 else if b = lo then some 1 else if b = lc then some 1 else if b = d then some 2 else if b ∈ mC.flatMap foot then some 3 else none
  have τlc : τ lc = some 1 := by
    show (if lc = x then _ else _) = _
    rw [if_neg xlc]
    by_cases z : lc = lo
    · rw [if_pos z]
    · rw [if_neg z, if_pos rfl]
  refine q Hf ⟨x, lo, lc, d, ys, mC, [], τ⟩ e0 rfl rfl ?_
  exact
  { ob := ⟨dx, fx⟩
    lo := kp _ _ olo hlo
    bO := hb
    e0 := e0
    lc := kp _ _ olc hlc
    mC := Mf
    dc := fd
    pp := rfl
    el := fun r hr => by cases hr
    em := fun r hr => by cases hr
    tg := if_pos rfl
    tlo := by
      show (if lo = x then _ else _) = _
      rw [if_neg xlo, if_pos rfl]
    tlc := τlc
    td := by
      show (if d = x then _ else _) = _
      rw [if_neg nxd.symm, if_neg dlo.symm, if_neg dlc.symm, if_pos rfl]
    tC := fun m hm b hb => by
      obtain ⟨a1, a2, a3, a4⟩ := fr m hm b hb
      show (if b = x then _ else _) = _
      rw [if_neg a2, if_neg a3, if_neg a4, if_neg (fd' m hm b hb), if_pos (List.mem_flatMap.mpr ⟨m, hm, hb⟩)]
    tl := fun r hr => by cases hr
    tm := fun i r hr => by simp at hr
    kd := fun b hb => by
      by_cases z1 : b = x
      · exact ⟨by rw [z1]; exact nx, _, by rw [z1]; exact fx, fun xs z => by cases z⟩
      by_cases z2 : b = lo
      · exact ⟨by rw [z2]; exact nlo, _, by rw [z2]; exact kp _ _ olo hlo, fun xs z => by cases z⟩
      by_cases z3 : b = lc
      · exact ⟨by rw [z3]; exact nlc, _, by rw [z3]; exact kp _ _ olc hlc, fun xs z => by cases z⟩
      by_cases z4 : b = d
      · exact ⟨by rw [z4]; exact nd0, _, by rw [z4]; exact fd, fun xs z => by cases z⟩
      by_cases z5 : b ∈ mC.flatMap foot
      · obtain ⟨m, hm, hb2⟩ := List.mem_flatMap.mp z5
        exact ⟨(fr m hm b hb2).1, Mf.there hm hb2⟩
      · refine absurd ?_ hb
        show (if b = x then _ else _) = none
        rw [if_neg z1, if_neg z2, if_neg z3, if_neg z4, if_neg z5] }
theorem fn_Gate {f : Addr} {fd : FuncData} (k : ClGt K A.gt) (c_copied_bounds : CalX P w K mg base 2 "copied_bounds" (spCopied K A.J A.W cN)) (c_new_meters : C8.Cal P w K mg base 4 "new_meters" (spW (RNew K A.J A.W A.JM A.WM)) []) (F : C8.Fun K "__init__" "Gate.__init__" s_Gate_init f fd) : FnOk P w K mg base (L2.CX P w) 5 f fd ["self", "own", "common"] (spGInit K A cN) := by
  obtain ⟨cl, n1, n2, n3, n4⟩ := k
  refine fnX7 F sc_Gate_init (fun vs H Q E h => ?_) (fun cdv A' outer s H vs Q E hr h => ?_)
  · obtain ⟨H0, x, dx, p, xs, cv, rfl, _⟩ := h
    rfl
  · obtain ⟨H0, x, dx, p, xs, cv, rfl, hx, nx, e0, hp, hl, h⟩ := h
    refine ⟨_, (pss_cons (ps_fld (pv 0) (pe_cX c_copied_bounds own_takes hr (by decide) rfl (pa_cons (pv 1) pa_nil)) rfl)
  (pss_cons (ps_fld (pv 0) (pe_ifExp (pt_cmp (pc_isN (pv 2))) (pe_lst pa_nil) (C8.pe_c c_new_meters hr (by decide) rfl (pa_cons (pe_cX c_copied_bounds own_takes hr (by decide) rfl (pa_cons (pv 2) pa_nil)) pa_nil))) rfl)
  (pss_cons (ps_fld (pv 0) pe_dnewK rfl)
  (pss_one (ps_fld (pv 0) pe_int rfl))))), ?_⟩
    refine ⟨_, rfl, p, xs, rfl, hp.mono e0, hl, ?_⟩
    rcases h with ⟨hb, qe⟩ | ⟨bO, gO, h⟩
    · exact .inr ⟨hb.mono e0, fun H2 e2 => qe H2 (e0.trans e2)⟩
    refine .inl ⟨bO, gO.mono e0, fun lo H1 nlo e1 hlo => ?_⟩
    obtain ⟨ys, rfl, hbO, hO4⟩ := gO
    have xlo : lo ≠ x := (ne_of_none hx nlo).symm
    refine ⟨_, rfl, x, A.gt, dx, [], rfl, e1 _ _ hx, cl, n1, by show 0 < 1000; decide, ?_⟩
    generalize hH2 : upd H1 x (.ins A.gt dx (putF "_own" (.ref lo) [])) = H2
    have hx2 : H2 x = some (.ins A.gt dx [("_own", .ref lo)]) := by
      rw [← hH2, upd_same]
      rfl
    have e02 : Ex H0 H2 := fun b o hb => by
      rw [← hH2, upd_ne (ne_of_none hb nx)]
      exact e1 _ _ (e0 _ _ hb)
    have hlo2 : H2 lo = some (.lst (ys.map V.ref)) := by
      rw [← hH2, upd_ne xlo]
      exact hlo
    have nlo0 : H0 lo = none := fresh_back e0 nlo
    have store : ∀ {H5 : Hp} {lc : Addr} {mC : List Mt} {bC : List Bd}, Ex H2 H5 → H5 lc = some (.lst (refs mC)) → H2 lc = none → Mts A.JM A.WM (bC.map fun b => (b, [])) mC H5 → (∀ m ∈ mC, ∀ b ∈ foot m, H2 b = none ∧ b ≠ lc) → (∀ H2 c, Ex H0 H2 → c.g = x → c.ys.map V.ref = ys.map V.ref → GateR A H0 (gst0 bO bC) c H2 → Q .non H2) → _ := fun {H5 lc mC bC} e5 hlc nlc MC fr q => by
      have hx5 := e5 _ _ hx2
      have xlc : lc ≠ x := fun z => by
        rw [z, hx2] at nlc
        cases nlc
      exact init_end (K := K) (A := A) (H0 := H0) (H3 := upd H5 x (.ins A.gt dx [("_own", .ref lo), ("_common", .ref lc)])) (x := x) (dx := dx) (lo := lo) (lc := lc) (ys := ys) (bO := bO) (bC := bC) (mC := mC) (σ := start ["self", "own", "common"] [.ref x, .ref p, cv]) (D := { nx := fun _ H' => Q .non H', rt := Q }) cl n3 n4 rfl upd_same (fun b o hb => by
          rw [upd_ne (ne_of_none hb nx)]
          exact e5 _ _ (e02 _ _ hb)) nx (by
          rw [upd_ne xlo]
          exact e5 _ _ hlo2) hbO nlo0 (by
          rw [upd_ne xlc]
          exact hlc) (fresh_back e02 nlc) (MC.keep (fo := [x]) (fun b o nb hb => by
            rw [upd_ne (fun z => nb (by rw [z]; simp))]
            exact hb) (fun m hm b hb z => by
            obtain rfl : b = x := by simpa using z
            rw [(fr m hm _ hb).1] at hx2
            cases hx2) (fun b hb xs z => by
            obtain rfl : b = x := by simpa using hb
            rw [hx5] at z
            cases z)) (fun m hm b hb => ⟨fresh_back e02 (fr m hm b hb).1, (fun z => by
            have y := (fr m hm b hb).1
            rw [z, hx2] at y
            cases y), (fun z => by
            have y := (fr m hm b hb).1
            rw [z, hlo2] at y
            cases y), (fr m hm b hb).2⟩) (fun H2 c e hg hy R => q H2 c e hg (by rw [hy]) R)
    rcases h with ⟨rfl, q⟩ | ⟨p2, xs2, rfl, hp2, hl2, h⟩
    · refine tif_go (b := true) (et_B (ev_isN (ev_var (v := .non) rfl))) (fun _ H3 e3 => ?_) fun z => by cases z
      refine ⟨(by show 0 ≤ sizeLine; decide), fun lc nlc => ?_⟩
      have e4 := e3.trans (Ex.new (o := .lst []) nlc)
      refine ⟨_, rfl, x, A.gt, dx, _, rfl, e4 _ _ hx2, cl, n2, by show 1 < 1000; decide, ?_⟩
      exact store (mC := []) (bC := []) e4 upd_same (fresh_back e3 nlc) ⟨rfl, fun j q m h => by simp at h, fun i j mi mj h => by simp at h⟩ (fun m hm => by cases hm) q
    · refine tif_go (b := false) (et_B (ev_isN (ev_var (v := .ref p2) rfl))) (fun z => by cases z) fun _ H3 e3 => ?_
      have e03 := e02.trans e3
      refine ⟨_, rfl, p2, xs2, rfl, hp2.mono e03, hl2, ?_⟩
      rcases h with ⟨hb, qe⟩ | ⟨bC, gC, q⟩
      · exact .inr ⟨hb.mono e03, fun H4 e4 => qe H4 (e03.trans e4)⟩
      refine .inl ⟨bC, gC.mono e03, fun l2 H4 nl2 e4 hl2' => ?_⟩
      obtain ⟨ys2, rfl, hbC, hC4⟩ := gC
      have e24 := e3.trans e4
      refine ⟨_, fun H5 e5 => ⟨l2, ys2, bC, H2, rfl, sq_of (e5 _ _ hl2'), paired_imp hbC fun _ _ z => z.mono ((e03.trans e4).trans e5), by omega, e24.trans e5, rfl⟩, fun v H5 e5 ⟨lc, mC, ev, hlc, MC, fr, nlc⟩ => ?_⟩
      subst ev
      refine ⟨_, rfl, x, A.gt, dx, _, rfl, (e24.trans e5) _ _ hx2, cl, n2, by show 1 < 1000; decide, ?_⟩
      exact store (e24.trans e5) hlc nlc MC fr q
theorem mak_Gate {f : Addr} {fd : FuncData} (k : ClGt K A.gt) (c_copied_bounds : CalX P w K mg base 2 "copied_bounds" (spCopied K A.J A.W cN)) (c_new_meters : C8.Cal P w K mg base 4 "new_meters" (spW (RNew K A.J A.W A.JM A.WM)) []) (M : Mk K A.gt f) (hm : mg "Gate" = some (.ref A.gt)) (F : C8.Fun K "__init__" "Gate.__init__" s_Gate_init f fd) (b : Binds K fd ["self", "own", "common"] []) :
    MakX P w K mg base 5 "Gate" A.gt (spGInit K A cN) ["self", "own", "common"] := ⟨f, fd, M, fn_Gate k c_copied_bounds c_new_meters F, hm, b⟩
theorem met_Gate_names {f : Addr} {fd : FuncData} (T : Blt mg) (k : ClGt K A.gt) (me : Meth K A.gt "names" f) (F : C8.Fun K "names" "Gate.names" s_Gate_names f fd) (b : Binds K fd ["self"] []) : C8.Met P w K mg base 1 A.gt "names" (spW (RNames A)) [] := by
  obtain ⟨cl, n1, n2, n3, n4⟩ := k
  refine metW cl me F b sc_Gate_names (fun vs H v h => ?_) (fun cdv A' outer s H vs W E hr h => ?_)
  · obtain ⟨H0, st, c, rfl, _⟩ := h
    rfl
  · obtain ⟨H0, st, c, rfl, R, hl, rfl⟩ := h
    refine ⟨_, (pss_one (ps_ret (pe_callB (call_sortedD rfl) (by rfl) T.b_sorted (by decide +kernel) (pa_cons (pe_fld (pv 0) rfl) pa_nil)))), ?_⟩
    obtain ⟨dx, ho⟩ := R.ob
    refine rtw_ret fun H1 e1 Q q => ?_
    refine (ev_fld (K := K) (ev_var (v := .ref c.g) rfl) ho cl n3 rfl : Ev _ _ H (.ref c.d)) H1 e1 _ fun H2 e2 => ?_
    have hk : (kvP c.pr).map (·.1) = (st.ppl.map (·.1)).map Sum.inr := by
      rw [R.pp]
      unfold kvP pplP
      rw [List.map_map, List.map_map, List.map_map]
      rfl
    refine ⟨c.d, kvP c.pr, st.ppl.map (·.1), rfl, .inl ((e1.trans e2) _ _ R.dc), hk, by rw [List.length_map]; exact hl, fun ys p pm srt np => q _ _ (e2.trans (Ex.new np)) ⟨p, ys, rfl, upd_same, pm, srt⟩⟩
theorem kept_all {bvs : List (Bd × VS)} {ms : List Mt} {cJM cWM : Addr} {H : Hp} (h : ms.length = bvs.length) : (refs ms).length = bvs.length := by
  rw [refs, List.length_map, h]
end
/-! the gate: how many visits it keeps -/
theorem paired_app {α β : Type} {R : α → β → Prop} : ∀ {xs : List α} {ys : List β} {xs' : List α} {ys' : List β}, Paired R xs ys → Paired R xs' ys' → Paired R (xs ++ xs') (ys ++ ys')
  | [], [], _, _, .nil, h => h
  | _ :: _, _ :: _, _, _, .cons r h, h' => .cons r (paired_app h h')
theorem paired_bind {α β γ : Type} {R : β → γ → Prop} {f : α → List β} {g : α → List γ} : ∀ {l : List α}, (∀ a ∈ l, Paired R (f a) (g a)) → Paired R (l.flatMap f) (l.flatMap g)
  | [], _ => .nil
  | a :: l, h => by
    rw [List.flatMap_cons, List.flatMap_cons]
    exact paired_app (h a List.mem_cons_self) (paired_bind fun b hb => h b (List.mem_cons_of_mem _ hb))
theorem Mts.paired {cJM cWM : Addr} {bvs : List (Bd × VS)} {ms : List Mt} {H : Hp} (h : Mts cJM cWM bvs ms H) : Paired (fun q m => MtS cJM cWM q.1 q.2 m H) bvs ms := paired_of h.len.symm fun i q m h1 h2 => h.st i q m h1 h2
def allM (c : GC) : List Mt := c.mC ++ c.pr.flatMap fun r => r.ms
def allB (st : GSt) (c : GC) : List (Bd × VS) := st.bC ++ c.pr.flatMap fun r => st.own.map fun b => (b, r.vis)
theorem GateR.paired {A : GA} {H0 H : Hp} {st : GSt} {c : GC} (R : GateR A H0 st c H) : Paired (fun q m => MtS A.JM A.WM q.1 q.2 m H) (allB st c) (allM c) := paired_app R.mC.paired (paired_bind fun r hr => (R.em r hr).paired)
theorem kept_sum {A : GA} {H0 H : Hp} {st : GSt} {c : GC} (R : GateR A H0 st c H) : (((allB st c).map fun q => ((keptB q.1 q.2 : Nat) : Int)).sum) = (st.keptN : Int) := by
  have z : ∀ l : List Nat, (l.map fun n : Nat => (n : Int)).sum = ((l.sum : Nat) : Int) := fun l => by
    induction l with
    | nil => rfl
    | cons a l ih => rw [List.map_cons, List.sum_cons, List.sum_cons, ih]; omega
  have e : ((allB st c).map fun q => ((keptB q.1 q.2 : Nat) : Int)) = ((allB st c).map fun q => keptB q.1 q.2).map fun n : Nat => (n : Int) := by
    rw [List.map_map]
    rfl
  rw [e, z]
  unfold GSt.keptN allB
  rw [List.map_append, List.sum_append, R.pp]
  unfold pplP
  rw [List.map_map]
  congr 2
  generalize c.pr = pr
  induction pr with
  | nil => rfl
  | cons r pr ih =>
    rw [List.flatMap_cons, List.map_append, List.sum_append, ih, List.map_cons, List.sum_cons, List.map_map]
    rfl
theorem ev_kept {K : PySem.W.Frag} {cJM cWM : Addr} {bd : Bd} {vis : VS} {m : Mt} {H : Hp} {σ : L2.St} {ta : TE} (S : MtS cJM cWM bd vis m H) (ha : Ev ta σ H (.ref m.1)) :
    Ev (tOr2 (tMeth cJM "kept" (spF (RKeptJ cJM)) [] C8.E0 ta tNil) (tMeth cWM "kept" (spF (RKeptW cWM)) [] C8.E0 ta tNil)) σ H (.int (keptB bd vis : Nat)) := by
  cases bd with
  | jar s f =>
    obtain ⟨h1', dx, lv, mo, hx, r⟩ := S
    exact ev_orL (ev_methF ha hx rfl ea_nil fun H1 e => ⟨m.1, dx, _, rfl, e _ _ hx, rfl⟩)
  | win mo s =>
    obtain ⟨l, dx, g, tot, rs, h1', hx, hP, r⟩ := S
    refine ev_orR (ev_methF ha hx rfl ea_nil fun H1 e => ⟨m.1, dx, mo, s, l, g, tot, rs, rfl, e _ _ hx, hP.mono e, ?_⟩)
    rw [wrel_keptN r]
    rfl
theorem paired_get {α β : Type} {R : α → β → Prop} {xs : List α} {ys : List β} (h : Paired R xs ys) {i : Nat} (hi : i < ys.length) : ∃ x y, xs[i]? = some x ∧ ys[i]? = some y ∧ R x y := by
  obtain ⟨x, e, r⟩ := paired_at h (List.getElem?_eq_getElem hi)
  exact ⟨x, _, e, List.getElem?_eq_getElem hi, r⟩
theorem allB_len {st : GSt} {c : GC} {A : GA} {H0 H : Hp} {k : Nat} (R : GateR A H0 st c H) (W : GWf st k) (hk : k ≤ 800) : (allB st c).length ≤ 4000 := by
  have h1 := W.lO
  have h2 := W.lC
  have h3 := W.nP
  rw [R.pp] at h3
  unfold pplP at h3
  rw [List.length_map] at h3
  have e2 : st.bC.length = st.com.length := List.length_map _
  have z : ∀ pr : List Pr, (pr.flatMap fun r => st.own.map fun b => (b, r.vis)).length = pr.length * st.own.length := fun pr => by
    induction pr with
    | nil => simp
    | cons r pr ih =>
      rw [List.flatMap_cons, List.length_append, ih, List.length_map, List.length_cons, Nat.add_mul]
      omega
  unfold allB
  rw [List.length_append, z, e2]
  have : c.pr.length * st.own.length ≤ 800 * 4 := Nat.mul_le_mul (by omega) h1
  omega
theorem ev_sumB {K : PySem.W.Frag} {σ : L2.St} {H : Hp} {te : TE} {ns : List Int} (h : EvW te σ H fun v H1 => ∃ l, v = .ref l ∧ H1 l = some (.lst (ns.map V.int))) : Ev (tCB (rSum K) (tCons te tNil)) σ H (.int ns.sum) := fun H1 e Q q =>
  h H1 e _ fun v H2 e2 ⟨l, ev, hl⟩ => ⟨l, ns, by rw [ev], sq_of hl, q H2 e2⟩
section
variable {P : Program} {w : World} {K : PySem.W.Frag} {mg : Str → Option Value} {base : Heap} {A : GA}
theorem met_Gate_kept {f : Addr} {fd : FuncData} (T : Blt mg) (k : ClGt K A.gt) (t_JarMeter_kept : C8.Met P w K mg base 1 A.JM "kept" (spF (RKeptJ A.JM)) []) (t_WindowMeter_kept : C8.Met P w K mg base 1 A.WM "kept" (spF (RKeptW A.WM)) []) (me : Meth K A.gt "kept" f) (F : C8.Fun K "kept" "Gate.kept" s_Gate_kept f fd) (b : Binds K fd ["self"] []) : C8.Met P w K mg base 2 A.gt "kept" (spF (RKeptG A)) [] := by
  obtain ⟨cl, n1, n2, n3, n4⟩ := k
  refine metF cl me F b sc_Gate_kept (fun vs H v h => ?_) (fun cdv A' outer s H vs v E hr h => ?_)
  · obtain ⟨H0, st, c, k, rfl, _⟩ := h
    rfl
  · obtain ⟨H0, st, c, k, rfl, R, W, hk, rfl⟩ := h
    refine ⟨_, (pss_cons (ps_set (i := 1) sc_Gate_kept.nd rfl (Or.inl rfl) (pe_callTy call_list_of (by rfl) T.b_list boot_list (pa_cons (pe_fld (pv 0) rfl) pa_nil)))
  (pss_cons (ps_lock (ps_for PassesOwn.never rfl (pi_values (pe_fld (pv 0) rfl)) (pg_name (i := 2) sc_Gate_kept.nd rfl (Or.inl rfl))
    (pss_one (ps_expr (pe_bm PySem.F.plainAttrs_list PySem.F.slot_list_extend PySem.F.type_list_extend mt_extend (pv 1) (pa_cons (pv 2) pa_nil))))))
  (pss_one (ps_ret (pe_callB (cr_sum rfl) (by rfl) T.b_sum (by decide +kernel) (pa_cons (pe_lc (own := [("meter", 3)]) (g := gName 3) rfl sc_Gate_kept.nd (pi_list (pv 1)) (blkOk_by (own := [("meter", 3)]) (N := ["self", "meters", "own", "meter"]) (sc := C8.fnScope s_Gate_kept) (by decide +kernel)) (fun _ _ _ _ _ => pg_name (i := 3) sc_Gate_kept.nd rfl (Or.inl rfl)) (fun _ _ _ _ _ => pts_nil) (fun _ _ _ _ _ => (pe_or2 (C8.pe_mt0 t_JarMeter_kept hr (by decide) (pv 3)) (C8.pe_mt0 t_WindowMeter_kept hr (by decide) (pv 3))))) pa_nil)))))), ?_⟩
    obtain ⟨dx, ho⟩ := R.ob
    intro Ha ea D qd
    replace R := R.mono ea
    replace ho := ea _ _ ho
    refine q_asgL (el_listQ (K := K) (ev_fld (ev_var (v := .ref c.g) rfl) ho cl n2 rfl) (.inl (sq_of R.lc))) fun l H1 nl e1 hl => ?_
    have R1 := R.mono e1
    have ho1 := e1 _ _ ho
    have ngd : c.g ≠ c.d := fun z => by
      have := R.tg
      rw [z, R.td] at this
      cases this
    have nld : l ≠ c.d := fun z => by
      rw [z, R1.dc] at hl
      cases hl
    have tot := allB_len R W hk
    have plen := Paired.length R.paired
    refine ⟨c.d, _, R1.dc, True.intro, fun od => ?_⟩
    refine ⟨_, rfl, c.g, A.gt, dx, _, _, rfl, by rw [upd_ne ngd]; exact ho1, cl, n3, rfl, c.d, od, kvP c.pr, rfl, upd_same, ?_⟩
    have klen : (kvP c.pr).length = c.pr.length := List.length_map _
    refine for_it (walk_values (kvs := kvP c.pr)) (fun i σ' H' => (∃ o2, σ' = [some (.ref c.g), some (.ref l), o2, none]) ∧ H' c.d = some (.frz od (.dK (kvP c.pr))) ∧ (∀ b o, b ≠ c.d → b ≠ l → H1 b = some o → H' b = some o) ∧ H' l = some (.lst (refs c.mC ++ refs ((c.pr.take i).flatMap fun r => r.ms))))
      ⟨⟨none, rfl⟩, upd_same, fun b o h1 _ hb => by rw [upd_ne h1]; exact hb, by rw [upd_ne nld]; simpa [refs] using hl⟩ (fun i σ' H' _ pv => pv.2.1) (fun i x σ' H' H'' hi pv yy => ?_) (fun σ' H' pv => ?_)
    · obtain ⟨⟨o2, hσ⟩, hd, kp, hl'⟩ := pv
      obtain ⟨rfl, kk, hx⟩ := yy
      subst hσ
      rw [klen] at hi
      have hr := List.getElem?_eq_getElem hi
      have hmem := List.getElem_mem hi
      generalize c.pr[i] = r at hr hmem
      rw [kvP, List.getElem?_map, hr] at hx
      cases hx
      have nrl : r.l ≠ l := fun z => by
        have := R.el r hmem
        rw [z, nl] at this
        cases this
      have nrd : r.l ≠ c.d := fun z => by
        have := R.el r hmem
        rw [z, R.dc] at this
        cases this
      have hrl := kp _ _ nrd nrl (R1.el r hmem)
      have split : (c.pr.take (i + 1)).flatMap (fun r => r.ms) = (c.pr.take i).flatMap (fun r => r.ms) ++ r.ms := by
        rw [List.take_add_one, hr, List.flatMap_append]
        simp
      have cap : (refs c.mC ++ refs ((c.pr.take i).flatMap fun r => r.ms)).length + (refs r.ms).length ≤ 100000 := by
        have t1 : (c.pr.take (i + 1)).flatMap (fun r => r.ms) ++ (c.pr.drop (i + 1)).flatMap (fun r => r.ms) = c.pr.flatMap fun r => r.ms := by
          rw [← List.flatMap_append, List.take_append_drop]
        have t2 := congrArg List.length t1
        rw [List.length_append, split, List.length_append] at t2
        unfold allM at plen
        rw [List.length_append] at plen
        rw [List.length_append, refs, refs, refs, List.length_map, List.length_map, List.length_map]
        omega
      refine ⟨_, rfl, .inl ⟨rfl, _, sq_of hl'⟩, ⟨_, rfl, l, r.l, _, _, rfl, rfl, hl', hrl, sz_of cap, ?_⟩⟩
      refine ⟨⟨_, rfl⟩, by rw [upd_ne nld.symm]; exact hd, fun b o h1 h2 hb => by rw [upd_ne h2]; exact kp b o h1 h2 hb, ?_⟩
      rw [upd_same, split]
      unfold refs
      rw [List.map_append, List.append_assoc]
    · obtain ⟨⟨o2, hσ⟩, hd, kp, hl'⟩ := pv
      subst hσ
      refine ⟨hd, ?_⟩
      rw [klen, List.take_length] at hl'
      have e2 : Ex Ha (upd H' c.d (.dK (kvP c.pr))) := fun b o hb => by
        by_cases h1 : b = c.d
        · rw [h1, R.dc] at hb
          rw [h1, upd_same]
          exact hb
        · rw [upd_ne h1]
          refine kp b o h1 (fun z => ?_) (e1 _ _ hb)
          rw [z, nl] at hb
          cases hb
      have hl2 : (upd H' c.d (.dK (kvP c.pr))) l = some (.lst (refs (allM c))) := by
        rw [upd_ne nld, hl']
        unfold allM refs
        rw [List.map_append]
      have R2 := R.mono e2
      generalize upd H' c.d (.dK (kvP c.pr)) = H2 at e2 hl2 R2
      have pr2 := R2.paired
      have rl : (refs (allM c)).length = (allM c).length := by rw [refs, List.length_map]
      have turn : ∀ i H3, Ex H2 H3 → i < (refs (allM c)).length → EvW (tOr2 (tMeth A.JM "kept" (spF (RKeptJ A.JM)) [] C8.E0 (tVar 3) tNil) (tMeth A.WM "kept" (spF (RKeptW A.WM)) [] C8.E0 (tVar 3) tNil)) ((wipe [some (.ref c.g), some (.ref l), o2, none] [3]).set 3 (some ((refs (allM c)).getD i .non))) H3 fun v _ => ∃ q, (allB st c)[i]? = some q ∧ v = .int (keptB q.1 q.2 : Nat) := fun i H3 e3 hi => by
        rw [rl] at hi
        obtain ⟨q, m, h1, h2, S⟩ := paired_get pr2 hi
        have item : (refs (allM c)).getD i .non = .ref m.1 := by
          rw [refs, List.getD_eq_getElem?_getD, List.getElem?_map, h2]
          rfl
        rw [item]
        refine evw_v (ev_kept (K := K) (S.mono e3) (ev_var ?_)) fun _ _ => ⟨q, h1, rfl⟩
        rfl
      have comp := evw_lcP (σ := [some (.ref c.g), some (.ref l), o2, none]) (j := 3) (vs := [3]) (fun i v (_ : Hp) => ∃ q, (allB st c)[i]? = some q ∧ v = .int (keptB q.1 q.2 : Nat)) (fun i v H1 H2 _ h => h) (fun i v H1 D xs ys _ h => h) (ei_l (K := K) (te := tVar 1) .non (ev_var rfl) (sq_of hl2)) (by omega) (fun x => rfl) turn
      show tRet (tCB (rSum K) (tCons (tLc (iList K (tVar 1)) (gName 3) tYes (tOr2 (tMeth A.JM "kept" (spF (RKeptJ A.JM)) [] C8.E0 (tVar 3) tNil) (tMeth A.WM "kept" (spF (RKeptW A.WM)) [] C8.E0 (tVar 3) tNil)) [3]) tNil)) D [some (.ref c.g), some (.ref l), o2, none] H2
      refine s_ret (v := .int (st.keptN : Nat)) (ev_is (ev_sumB (ns := (allB st c).map fun q => ((keptB q.1 q.2 : Nat) : Int)) (comp.imp fun v H3 e3 ⟨z, xs, ev, hz, hlen, hP⟩ => ⟨z, ev, ?_⟩)) (congrArg V.int (kept_sum R))) fun H3 e3 => qd H3 (e2.trans e3)
      have hxs : xs = ((allB st c).map fun q => ((keptB q.1 q.2 : Nat) : Int)).map V.int := by
        apply List.ext_getElem?
        intro i
        rw [List.getElem?_map, List.getElem?_map]
        by_cases hi : i < xs.length
        · obtain ⟨q, hq, hv⟩ := hP i _ (List.getElem?_eq_getElem hi)
          rw [List.getElem?_eq_getElem hi, hv, hq]
          rfl
        · rw [List.getElem?_eq_none (by omega), List.getElem?_eq_none (by omega)]
          rfl
      rw [hz, hxs]
end
/-! texts in their order: one order -/
theorem le_cps (a b : Str) : PySem.Spec.ltCps b.cps.toList a.cps.toList = false ↔ a.cps.toList ≤ b.cps.toList := by
  rw [ltCps_eq, decide_eq_false_iff_not]
  exact Iff.rfl
theorem rising_pw : ∀ (p : Str) (l : List Str), risingS p l = true → (p :: l).Pairwise fun a b => a.cps.toList ≤ b.cps.toList
  | p, [], _ => List.pairwise_singleton _ _
  | p, x :: r, h => by
    have h : (!PySem.Spec.ltCps x.cps.toList p.cps.toList && risingS x r) = true := h
    rw [Bool.and_eq_true] at h
    have hp : p.cps.toList ≤ x.cps.toList := (le_cps p x).mp ((Bool.not_eq_true' _).mp h.1)
    have ih := rising_pw x r h.2
    refine List.pairwise_cons.mpr ⟨fun y hy => ?_, ih⟩
    rcases List.mem_cons.mp hy with rfl | hy
    · exact hp
    · exact List.le_trans hp (List.rel_of_pairwise_cons ih hy)
theorem sorted_pw {l : List Str} (h : sortedS l = true) : l.Pairwise fun a b => a.cps.toList ≤ b.cps.toList := by
  cases l with
  | nil => exact .nil
  | cons p l => exact rising_pw p l h
theorem cps_inj {a b : Str} (h : a.cps.toList = b.cps.toList) : a = b := by
  cases a
  cases b
  congr 1
  exact Array.toList_inj.mp h
theorem sorted_one {l m : List Str} (h1 : sortedS l = true) (h2 : sortedS m = true) (p : l.Perm m) : l = m :=
  List.Perm.eq_of_pairwise (fun a b _ _ x y => cps_inj (List.le_antisymm x y)) (sorted_pw h1) (sorted_pw h2) p
section
variable {P : Program} {w : World} {K : PySem.W.Frag} {mg : Str → Option Value} {base : Heap} {C : Addr}
theorem mak_Jar {f : Addr} {fd : FuncData} (G : Cst mg) (k : ClJar K C) (c_is_within : C8.Cal P w K mg base 1 "is_within" (spF (RWithin K)) []) (M : Mk K C f) (hm : mg "Jar" = some (.ref C)) (F : C8.Fun K "__init__" "Jar.__init__" s_Jar_init f fd) (b : Binds K fd ["self", "size", "flow"] []) : C8.Mak P w K mg base 2 "Jar" C (spI C DJar (JJar C)) [] := by
  obtain ⟨cl, n1, n2⟩ := k
  refine C8.mak0 M hm F b .nil sc_Jar_init (fun vs H Q E h => ?_) (fun cdv A outer s H vs Q E hr h => ?_)
  · obtain ⟨x, dx, as, rfl, _, ⟨s, f, rfl, _⟩, _⟩ := h
    rfl
  · obtain ⟨x, dx, as, rfl, hx, ⟨s, f, rfl, h1, h2, h3, h4⟩, q⟩ := h
    refine ⟨_, (pss_cons (ps_if (pt_not (pt_val (C8.pe_c c_is_within hr (by decide) rfl (pa_cons (pv 1) (pa_cons pe_int (pa_cons (C8.pe_gc rfl G.g_LARGEST_SIZE) pa_nil))))))
    (pss_one ps_never)
    pss_nil)
  (pss_cons (ps_if (pt_not (pt_val (C8.pe_c c_is_within hr (by decide) rfl (pa_cons (pv 2) (pa_cons pe_int (pa_cons (C8.pe_gc rfl G.g_LARGEST_FLOW) pa_nil))))))
    (pss_one ps_never)
    pss_nil)
  (pss_cons (ps_fld (pv 0) (pv 1) rfl)
  (pss_one (ps_fld (pv 0) (pv 2) rfl))))), ?_⟩
    refine Nx.go (nx_if (b := false) (et_not (a := true) (et_B (ev_callF (ea_cons (ev_var rfl) (ea_cons ev_c (ea_cons ev_c ea_nil))) (rWithin (by simp only [decide_eq_true h1, decide_eq_true h2, Bool.and_self]))))) (fun z => by cases z) fun _ => nx_next) fun H1 e1 => ?_
    refine Nx.go (nx_if (b := false) (et_not (a := true) (et_B (ev_callF (ea_cons (ev_var rfl) (ea_cons ev_c (ea_cons ev_c ea_nil))) (rWithin (by simp only [decide_eq_true h3, decide_eq_true h4, Bool.and_self]))))) (fun z => by cases z) fun _ => nx_next) fun H2 e2 => ?_
    replace hx := e2 _ _ (e1 _ _ hx)
    refine ⟨_, rfl, _, rfl, x, C, dx, _, rfl, hx, cl, n1, by show 0 < 1000; decide, ?_⟩
    refine ⟨_, rfl, _, rfl, x, C, dx, _, rfl, upd_same, cl, n2, by show 1 < 1000; decide, ?_⟩
    refine q _ (fun b o hb e => ?_) ⟨s, f, rfl, upd_same⟩
    rw [upd_ne hb, upd_ne hb]
    exact e2 _ _ (e1 _ _ e)
theorem mak_Window {f : Addr} {fd : FuncData} (G : Cst mg) (k : ClWin K C) (c_is_within : C8.Cal P w K mg base 1 "is_within" (spF (RWithin K)) []) (M : Mk K C f) (hm : mg "Window" = some (.ref C)) (F : C8.Fun K "__init__" "Window.__init__" s_Window_init f fd) (b : Binds K fd ["self", "most", "span"] []) : C8.Mak P w K mg base 2 "Window" C (spI C DWin (JWin C)) [] := by
  obtain ⟨cl, n1, n2⟩ := k
  refine C8.mak0 M hm F b .nil sc_Window_init (fun vs H Q E h => ?_) (fun cdv A outer s H vs Q E hr h => ?_)
  · obtain ⟨x, dx, as, rfl, _, ⟨s, f, rfl, _⟩, _⟩ := h
    rfl
  · obtain ⟨x, dx, as, rfl, hx, ⟨s, f, rfl, h1, h2, h3, h4⟩, q⟩ := h
    refine ⟨_, (pss_cons (ps_if (pt_not (pt_val (C8.pe_c c_is_within hr (by decide) rfl (pa_cons (pv 1) (pa_cons pe_int (pa_cons (C8.pe_gc rfl G.g_LARGEST_MOST) pa_nil))))))
    (pss_one ps_never)
    pss_nil)
  (pss_cons (ps_if (pt_not (pt_val (C8.pe_c c_is_within hr (by decide) rfl (pa_cons (pv 2) (pa_cons pe_int (pa_cons (C8.pe_gc rfl G.g_LARGEST_SPAN) pa_nil))))))
    (pss_one ps_never)
    pss_nil)
  (pss_cons (ps_fld (pv 0) (pv 1) rfl)
  (pss_one (ps_fld (pv 0) (pv 2) rfl))))), ?_⟩
    refine Nx.go (nx_if (b := false) (et_not (a := true) (et_B (ev_callF (ea_cons (ev_var rfl) (ea_cons ev_c (ea_cons ev_c ea_nil))) (rWithin (by simp only [decide_eq_true h1, decide_eq_true h2, Bool.and_self]))))) (fun z => by cases z) fun _ => nx_next) fun H1 e1 => ?_
    refine Nx.go (nx_if (b := false) (et_not (a := true) (et_B (ev_callF (ea_cons (ev_var rfl) (ea_cons ev_c (ea_cons ev_c ea_nil))) (rWithin (by simp only [decide_eq_true h3, decide_eq_true h4, Bool.and_self]))))) (fun z => by cases z) fun _ => nx_next) fun H2 e2 => ?_
    replace hx := e2 _ _ (e1 _ _ hx)
    refine ⟨_, rfl, _, rfl, x, C, dx, _, rfl, hx, cl, n1, by show 0 < 1000; decide, ?_⟩
    refine ⟨_, rfl, _, rfl, x, C, dx, _, rfl, upd_same, cl, n2, by show 1 < 1000; decide, ?_⟩
    refine q _ (fun b o hb e => ?_) ⟨s, f, rfl, upd_same⟩
    rw [upd_ne hb, upd_ne hb]
    exact e2 _ _ (e1 _ _ e)
end
/-! bounds made of any numbers -/
def spMkX (K : PySem.W.Frag) (C cN : Addr) (mk : Int → Int → Bd) (fl : Int → Int → List (Str × V)) : Sp := fun vs H Q E => ∃ x dx a b, vs = [.ref x, .int a, .int b] ∧ H x = some (.ins C dx []) ∧
  ((mk a b).ok → ∀ H2, (∀ y o, y ≠ x → H y = some o → H2 y = some o) → H2 x = some (.ins C dx (fl a b)) → Q .non H2) ∧ (¬ (mk a b).ok → ∀ H2, Ex H H2 → E (.ref cN) none H2)
section
variable {P : Program} {w : World} {K : PySem.W.Frag} {mg : Str → Option Value} {base : Heap} {C cJ cW cG : Addr} {cs : Nat → Addr}
theorem mak_JarX {f : Addr} {fd : FuncData} (G : Gcl mg cG cs cJ cW) (k : ClJar K C) (RB : Rs K mg "NoBound" (cs 0)) (c_is_within : C8.Cal P w K mg base 1 "is_within" (spF (RWithin K)) []) (M : Mk K C f) (hm : mg "Jar" = some (.ref C)) (F : C8.Fun K "__init__" "Jar.__init__" s_Jar_init f fd) (b : Binds K fd ["self", "size", "flow"] []) : MakX P w K mg base 2 "Jar" C (spMkX K C (cs 0) .jar fJar) ["self", "size", "flow"] := by
  obtain ⟨cl, n1, n2⟩ := k
  refine makX M hm F b sc_Jar_init (fun vs H Q E h => ?_) (fun cdv A outer s H vs Q E hr h => ?_)
  · obtain ⟨x, dx, a, b, rfl, _⟩ := h
    rfl
  · obtain ⟨x, dx, s, f, rfl, hx, q, qx⟩ := h
    refine ⟨_, (pss_cons (ps_if (pt_not (pt_val (C8.pe_c c_is_within hr (by decide) rfl (pa_cons (pv 1) (pa_cons pe_int (pa_cons (C8.pe_gc rfl G.g_LARGEST_SIZE) pa_nil))))))
    (pss_one (ps_raise rfl (takes_of rfl rfl rfl rfl) (SkE.pmk_own1 PySem.F.excBase_ValueError RB.xP RB.gP RB.kP (raises_own RB.bP RB.tP) rfl (pe_joined (.cons pe_str (.cons (pe_fmt (C8.pe_gc rfl G.g_LARGEST_SIZE)) .nil))))))
    pss_nil)
  (pss_cons (ps_if (pt_not (pt_val (C8.pe_c c_is_within hr (by decide) rfl (pa_cons (pv 2) (pa_cons pe_int (pa_cons (C8.pe_gc rfl G.g_LARGEST_FLOW) pa_nil))))))
    (pss_one (ps_raise rfl (takes_of rfl rfl rfl rfl) (SkE.pmk_own1 PySem.F.excBase_ValueError RB.xP RB.gP RB.kP (raises_own RB.bP RB.tP) rfl (pe_joined (.cons pe_str (.cons (pe_fmt (C8.pe_gc rfl G.g_LARGEST_FLOW)) .nil))))))
    pss_nil)
  (pss_cons (ps_fld (pv 0) (pv 1) rfl)
  (pss_one (ps_fld (pv 0) (pv 2) rfl))))), ?_⟩
    have e1 : EvT (tNot (tB (tCall (spF (RWithin K)) [] C8.E0 (tCons (tVar 1) (tCons (tC (.int 1)) (tCons (tC (.int 1000000000000000)) tNil)))))) (start ["self", "size", "flow"] [.ref x, .int s, .int f]) H (!inR (.int s) 1 1000000000000000) := et_not (et_B (ev_callF (ea_cons (ev_var rfl) (ea_cons ev_c (ea_cons ev_c ea_nil))) (rWithinK (.inl ⟨s, rfl⟩))))
    by_cases h1 : inR (.int s) 1 1000000000000000 = true
    · rw [h1] at e1
      refine q_when (b := false) e1 (fun z => by cases z) fun _ H1 g1 => ?_
      have e2 : EvT (tNot (tB (tCall (spF (RWithin K)) [] C8.E0 (tCons (tVar 2) (tCons (tC (.int 0)) (tCons (tC (.int 1000000000)) tNil)))))) (start ["self", "size", "flow"] [.ref x, .int s, .int f]) H1 (!inR (.int f) 0 1000000000) := et_not (et_B (ev_callF (ea_cons (ev_var rfl) (ea_cons ev_c (ea_cons ev_c ea_nil))) (rWithinK (.inl ⟨f, rfl⟩))))
      obtain ⟨_, h10, h11, h12⟩ := inR_int h1
      cases h10
      by_cases h2 : inR (.int f) 0 1000000000 = true
      · rw [h2] at e2
        obtain ⟨_, h20, h21, h22⟩ := inR_int h2
        cases h20
        refine q_when (b := false) e2 (fun z => by cases z) fun _ H2 g2 => ?_
        replace hx := g2 _ _ (g1 _ _ hx)
        refine ⟨_, rfl, _, rfl, x, C, dx, _, rfl, hx, cl, n1, by show 0 < 1000; decide, ?_⟩
        refine ⟨_, rfl, _, rfl, x, C, dx, _, rfl, upd_same, cl, n2, by show 1 < 1000; decide, ?_⟩
        refine q ⟨h11, h12, h21, h22⟩ _ (fun b o hb e => ?_) upd_same
        rw [upd_ne hb, upd_ne hb]
        exact g2 _ _ (g1 _ _ e)
      · rw [Bool.eq_false_iff.mpr h2] at e2
        refine q_when (b := true) e2 (fun _ H2 g2 => ?_) fun z => by cases z
        refine ⟨_, rfl, by decide, ?_⟩
        refine fmt_n (by decide +kernel) H2 (Ex.refl H2) _ fun H3 g3 => ⟨_, rfl, by decide +kernel, qx (fun ⟨_, _, z1, z2⟩ => h2 ?_) H3 ((g1.trans g2).trans g3)⟩
        show (decide (0 ≤ f) && decide (f ≤ 1000000000)) = true
        rw [decide_eq_true z1, decide_eq_true z2]
        rfl
    · rw [Bool.eq_false_iff.mpr h1] at e1
      refine q_when (b := true) e1 (fun _ H2 g2 => ?_) fun z => by cases z
      refine ⟨_, rfl, by decide, ?_⟩
      refine fmt_n (by decide +kernel) H2 (Ex.refl H2) _ fun H3 g3 => ⟨_, rfl, by decide +kernel, qx (fun ⟨z1, z2, _, _⟩ => h1 ?_) H3 (g2.trans g3)⟩
      show (decide (1 ≤ s) && decide (s ≤ 1000000000000000)) = true
      rw [decide_eq_true z1, decide_eq_true z2]
      rfl
theorem mak_WindowX {f : Addr} {fd : FuncData} (G : Gcl mg cG cs cJ cW) (k : ClWin K C) (RB : Rs K mg "NoBound" (cs 0)) (c_is_within : C8.Cal P w K mg base 1 "is_within" (spF (RWithin K)) []) (M : Mk K C f) (hm : mg "Window" = some (.ref C)) (F : C8.Fun K "__init__" "Window.__init__" s_Window_init f fd) (b : Binds K fd ["self", "most", "span"] []) : MakX P w K mg base 2 "Window" C (spMkX K C (cs 0) .win fWin) ["self", "most", "span"] := by
  obtain ⟨cl, n1, n2⟩ := k
  refine makX M hm F b sc_Window_init (fun vs H Q E h => ?_) (fun cdv A outer s H vs Q E hr h => ?_)
  · obtain ⟨x, dx, a, b, rfl, _⟩ := h
    rfl
  · obtain ⟨x, dx, s, f, rfl, hx, q, qx⟩ := h
    refine ⟨_, (pss_cons (ps_if (pt_not (pt_val (C8.pe_c c_is_within hr (by decide) rfl (pa_cons (pv 1) (pa_cons pe_int (pa_cons (C8.pe_gc rfl G.g_LARGEST_MOST) pa_nil))))))
    (pss_one (ps_raise rfl (takes_of rfl rfl rfl rfl) (SkE.pmk_own1 PySem.F.excBase_ValueError RB.xP RB.gP RB.kP (raises_own RB.bP RB.tP) rfl (pe_joined (.cons pe_str (.cons (pe_fmt (C8.pe_gc rfl G.g_LARGEST_MOST)) .nil))))))
    pss_nil)
  (pss_cons (ps_if (pt_not (pt_val (C8.pe_c c_is_within hr (by decide) rfl (pa_cons (pv 2) (pa_cons pe_int (pa_cons (C8.pe_gc rfl G.g_LARGEST_SPAN) pa_nil))))))
    (pss_one (ps_raise rfl (takes_of rfl rfl rfl rfl) (SkE.pmk_own1 PySem.F.excBase_ValueError RB.xP RB.gP RB.kP (raises_own RB.bP RB.tP) rfl (pe_joined (.cons pe_str (.cons (pe_fmt (C8.pe_gc rfl G.g_LARGEST_SPAN)) .nil))))))
    pss_nil)
  (pss_cons (ps_fld (pv 0) (pv 1) rfl)
  (pss_one (ps_fld (pv 0) (pv 2) rfl))))), ?_⟩
    have e1 : EvT (tNot (tB (tCall (spF (RWithin K)) [] C8.E0 (tCons (tVar 1) (tCons (tC (.int 1)) (tCons (tC (.int 1000000000000000)) tNil)))))) (start ["self", "most", "span"] [.ref x, .int s, .int f]) H (!inR (.int s) 1 1000000000000000) := et_not (et_B (ev_callF (ea_cons (ev_var rfl) (ea_cons ev_c (ea_cons ev_c ea_nil))) (rWithinK (.inl ⟨s, rfl⟩))))
    by_cases h1 : inR (.int s) 1 1000000000000000 = true
    · rw [h1] at e1
      refine q_when (b := false) e1 (fun z => by cases z) fun _ H1 g1 => ?_
      have e2 : EvT (tNot (tB (tCall (spF (RWithin K)) [] C8.E0 (tCons (tVar 2) (tCons (tC (.int 1)) (tCons (tC (.int 1000000000000)) tNil)))))) (start ["self", "most", "span"] [.ref x, .int s, .int f]) H1 (!inR (.int f) 1 1000000000000) := et_not (et_B (ev_callF (ea_cons (ev_var rfl) (ea_cons ev_c (ea_cons ev_c ea_nil))) (rWithinK (.inl ⟨f, rfl⟩))))
      obtain ⟨_, h10, h11, h12⟩ := inR_int h1
      cases h10
      by_cases h2 : inR (.int f) 1 1000000000000 = true
      · rw [h2] at e2
        obtain ⟨_, h20, h21, h22⟩ := inR_int h2
        cases h20
        refine q_when (b := false) e2 (fun z => by cases z) fun _ H2 g2 => ?_
        replace hx := g2 _ _ (g1 _ _ hx)
        refine ⟨_, rfl, _, rfl, x, C, dx, _, rfl, hx, cl, n1, by show 0 < 1000; decide, ?_⟩
        refine ⟨_, rfl, _, rfl, x, C, dx, _, rfl, upd_same, cl, n2, by show 1 < 1000; decide, ?_⟩
        refine q ⟨h11, h12, h21, h22⟩ _ (fun b o hb e => ?_) upd_same
        rw [upd_ne hb, upd_ne hb]
        exact g2 _ _ (g1 _ _ e)
      · rw [Bool.eq_false_iff.mpr h2] at e2
        refine q_when (b := true) e2 (fun _ H2 g2 => ?_) fun z => by cases z
        refine ⟨_, rfl, by decide, ?_⟩
        refine fmt_n (by decide +kernel) H2 (Ex.refl H2) _ fun H3 g3 => ⟨_, rfl, by decide +kernel, qx (fun ⟨_, _, z1, z2⟩ => h2 ?_) H3 ((g1.trans g2).trans g3)⟩
        show (decide (1 ≤ f) && decide (f ≤ 1000000000000)) = true
        rw [decide_eq_true z1, decide_eq_true z2]
        rfl
    · rw [Bool.eq_false_iff.mpr h1] at e1
      refine q_when (b := true) e1 (fun _ H2 g2 => ?_) fun z => by cases z
      refine ⟨_, rfl, by decide, ?_⟩
      refine fmt_n (by decide +kernel) H2 (Ex.refl H2) _ fun H3 g3 => ⟨_, rfl, by decide +kernel, qx (fun ⟨z1, z2, _, _⟩ => h1 ?_) H3 (g2.trans g3)⟩
      show (decide (1 ≤ s) && decide (s ≤ 1000000000000000)) = true
      rw [decide_eq_true z1, decide_eq_true z2]
      rfl
end
/-! what the rows mean -/
/-! how long a wait can be -/
theorem ceil_le {u f : Int} (hu : 1 ≤ u) (hf : 1 ≤ f) : (u + f - 1) / f ≤ u := by
  refine Int.ediv_le_of_le_mul (by omega) ?_
  have y := Int.mul_le_mul_of_nonneg_left hf (show 0 ≤ u - 1 by omega)
  rw [Int.mul_one, Int.sub_mul, Int.one_mul] at y
  omega
theorem run_bd {bd : Bd} (ok : bd.ok) {t : Int} : ∀ {r : VS} {st st' : Int × Int}, (∀ q ∈ r, q.1 ≤ t ∧ 0 ≤ q.2 ∧ q.2 ≤ 1000000000) → 0 ≤ st.2 → runW bd t r st = some st' → st'.1 ≤ max st.1 (1000000000000 + st.2 + 1000000000 * (r.length : Int))
  | [], st, st', _, _, h => by
    cases h
    omega
  | q :: r, st, st', hq, h0, h => by
    obtain ⟨q1, q2, q3⟩ := hq q List.mem_cons_self
    rw [runW] at h
    cases ht : turnW bd t q st with
    | none =>
      rw [ht] at h
      cases h
    | some s2 =>
      rw [ht] at h
      have e2 : s2.2 = st.2 + q.2 ∧ s2.1 ≤ max st.1 (1000000000000 + (st.2 + q.2)) := by
        unfold turnW at ht
        split at ht
        · rename_i hgt
          cases bd with
          | win m s =>
            injection ht with ht
            rw [← ht]
            have : s ≤ 1000000000000 := ok.2.2.2
            exact ⟨rfl, by show max st.1 (q.1 + s - t) ≤ _; omega⟩
          | jar m f =>
            have f0 : 0 ≤ f := ok.2.2.1
            have m1 : 1 ≤ m := ok.1
            have hgt : st.2 + q.2 > m := hgt
            have ht : (if f = 0 then none else some (max st.1 (q.1 + (st.2 + q.2 - m + f - 1) / f - t), st.2 + q.2)) = some s2 := ht
            by_cases z : f = 0
            · rw [if_pos z] at ht
              cases ht
            · rw [if_neg z] at ht
              injection ht with ht
              rw [← ht]
              have dv := ceil_le (show 1 ≤ st.2 + q.2 - m by omega) (show 1 ≤ f by omega)
              exact ⟨rfl, by show max st.1 (q.1 + (st.2 + q.2 - m + f - 1) / f - t) ≤ _; omega⟩
        · injection ht with ht
          rw [← ht]
          exact ⟨rfl, by show st.1 ≤ _; omega⟩
      have ih := run_bd ok (fun x hx => hq x (List.mem_cons_of_mem _ hx)) (by omega) h
      rw [List.length_cons, Int.natCast_add, Int.mul_add]
      have : (1000000000 : Int) * ((1 : Nat) : Int) = 1000000000 := rfl
      omega
theorem due_bd {bd : Bd} (ok : bd.ok) {vs : VS} {t c w : Int} (hq : ∀ q ∈ vs, q.1 ≤ t ∧ 0 ≤ q.2 ∧ q.2 ≤ 1000000000) (hn : vs.length ≤ 900) (c0 : 0 ≤ c) (c1 : c ≤ 1000000000) (h : dueV bd vs t c = some w) : w ≤ 2000000000000 := by
  unfold dueV at h
  split at h
  · cases h
  · cases hr : runW bd t vs.reverse (0, c) with
    | none =>
      rw [hr] at h
      cases h
    | some st =>
      rw [hr] at h
      injection h with h
      rw [← h]
      have z := run_bd ok (fun q hx => hq q (List.mem_reverse.mp hx)) c0 hr
      rw [List.length_reverse] at z
      have z : st.1 ≤ max 0 (1000000000000 + c + 1000000000 * (vs.length : Int)) := z
      omega
theorem all_bd {t c : Int} (c0 : 0 ≤ c) (c1 : c ≤ 1000000000) : ∀ {bvs : List (Bd × VS)} {acc w : Int}, (∀ p ∈ bvs, p.1.ok ∧ p.2.length ≤ 900 ∧ ∀ q ∈ p.2, q.1 ≤ t ∧ 0 ≤ q.2 ∧ q.2 ≤ 1000000000) → acc ≤ 2000000000000 → waitAllV t c bvs acc = some w → w ≤ 2000000000000
  | [], acc, w, _, h0, h => by
    cases h
    exact h0
  | p :: r, acc, w, hp, h0, h => by
    rw [waitAllV] at h
    cases hd : dueV p.1 p.2 t c with
    | none =>
      rw [hd] at h
      cases h
    | some n =>
      rw [hd] at h
      have hq := hp p List.mem_cons_self
      have z := due_bd hq.1 hq.2.2 hq.2.1 c0 c1 hd
      exact all_bd c0 c1 (fun x hx => hp x (List.mem_cons_of_mem _ hx)) (by omega) (show waitAllV t c r (max acc n) = some w from h)
/-- visits of costs within their bounds -/
def CB (s : GSt) : Prop := (∀ q ∈ s.all, q.2 ≤ 1000000000) ∧ ∀ p ∈ s.ppl, ∀ q ∈ p.2, q.2 ≤ 1000000000
theorem vok_mem {vs : VS} (h : VOk vs) {q : Int × Int} (hq : q ∈ vs) : 1 ≤ q.2 := by
  obtain ⟨i, hi⟩ := List.getElem?_of_mem hq
  have hl := (List.getElem?_eq_some_iff.mp hi).1
  have z := h.cost i hl
  rw [List.getD_eq_getElem?_getD, hi] at z
  exact z
theorem CB.wait {s : GSt} {k : Nat} {n : Str} {t c w : Int} (h : CB s) (W : GWf s k) (hk : k ≤ 800) (ht : s.last ≤ t) (c0 : 0 ≤ c) (c1 : c ≤ 1000000000) (hw : waitAllV t c (s.bO n ++ s.bC) 0 = some w) : 0 ≤ w ∧ w ≤ 2000000000000 := by
  refine ⟨waitAllV_nn hw, all_bd c0 c1 (fun p hp => ?_) (by decide) hw⟩
  obtain ⟨v1, v2, v3⟩ := visP_ok (n := n) W
  rcases List.mem_append.mp hp with z | z
  · obtain ⟨b, hb, rfl⟩ := List.mem_map.mp z
    refine ⟨W.okO b hb, by show (visP s.ppl n).length ≤ 900; omega, fun q hq => ⟨Int.le_trans (v2 q hq) ht, by have := vok_mem v1 hq; omega, ?_⟩⟩
    have hq : q ∈ visP s.ppl n := hq
    unfold visP at hq
    cases e : findP s.ppl n with
    | none => rw [e] at hq; cases hq
    | some r =>
      rw [e] at hq
      exact h.2 r (findP_some e).1 q hq
  · obtain ⟨b, hb, rfl⟩ := List.mem_map.mp z
    have := W.nA
    exact ⟨W.okC b hb, by show s.all.length ≤ 900; omega, fun q hq => ⟨Int.le_trans (W.uA q hq) ht, by have := vok_mem W.vA hq; omega, h.1 q hq⟩⟩
theorem CB.next {s : GSt} {n : Str} {t c : Int} (h : CB s) (c1 : c ≤ 1000000000) : CB (s.next n t c) := by
  unfold GSt.next
  split
  · refine ⟨fun q hq => ?_, fun p hp => ?_⟩
    · rcases List.mem_append.mp hq with z | z
      · exact h.1 q z
      · rw [List.mem_singleton.mp z]
        exact c1
    · have hp : p ∈ putP s.ppl n t c := hp
      unfold putP at hp
      cases e : findP s.ppl n with
      | some r =>
        rw [e] at hp
        obtain ⟨x, hx, rfl⟩ := List.mem_map.mp hp
        try dsimp only
        split
        · intro q hq
          rcases List.mem_append.mp hq with z | z
          · exact h.2 x hx q z
          · rw [List.mem_singleton.mp z]
            exact c1
        · exact h.2 x hx
      | none =>
        rw [e] at hp
        rcases List.mem_append.mp hp with z | z
        · exact h.2 p z
        · rw [List.mem_singleton.mp z]
          intro q hq
          rw [List.mem_singleton.mp hq]
          exact c1
  · exact h
theorem CB.nil (o c : List Bd) : CB (gst0 o c) := ⟨fun q h => (by cases h), fun p h => (by cases h)⟩
/-! texts of answers -/
def intS (i : Int) : Str := Str.ofString (toString i)
def neverT : Option Int → Str
  | none => "never"
  | some i => intS i
def shutT (w : Str) (k : Nat) (o : Option Int) : Str := (((((Str.empty ++ ("shut " : Str)) ++ w) ++ (" " : Str)) ++ intS (k : Nat)) ++ (" " : Str)) ++ neverT o
def GSt.text (s : GSt) (n : Str) (t c : Int) : Str := match firstNo t c (s.bO n) 0 with
  | some k => shutT "own" k (waitAllV t c (s.bO n ++ s.bC) 0)
  | none => match firstNo t c s.bC 0 with
    | some k => shutT "common" k (waitAllV t c (s.bO n ++ s.bC) 0)
    | none => "open"
def ShT (l : List V) (x : Str) : Prop := (l = [.str "open"] ∧ x = "open") ∨ ∃ w k o, l = shutL w k o ∧ (w = "own" ∨ w = "common") ∧ k ≤ 100 ∧ (∀ i, o = some i → 0 ≤ i ∧ i ≤ 2000000000000) ∧ x = shutT w k o
theorem first_le {t c : Int} : ∀ {bvs : List (Bd × VS)} {i k : Nat}, firstNo t c bvs i = some k → k < i + bvs.length
  | [], _, _, h => by cases h
  | p :: r, i, k, h => by
    rw [firstNo] at h
    rw [List.length_cons]
    split at h
    · have := first_le h
      omega
    · injection h with h
      omega
theorem text_is {s : GSt} {k : Nat} {n : Str} {t c : Int} (h : CB s) (W : GWf s k) (hk : k ≤ 800) (ht : s.last ≤ t) (c0 : 0 ≤ c) (c1 : c ≤ 1000000000) : ShT (s.tells n t c) (s.text n t c) := by
  have wb : ∀ i, waitAllV t c (s.bO n ++ s.bC) 0 = some i → 0 ≤ i ∧ i ≤ 2000000000000 := fun i hi => h.wait W hk ht c0 c1 hi
  unfold GSt.tells GSt.text
  cases e1 : firstNo t c (s.bO n) 0 with
  | some j =>
    have l1 := first_le e1
    have l2 := W.lO
    unfold GSt.bO at l1
    rw [List.length_map] at l1
    exact .inr ⟨_, j, _, rfl, .inl rfl, by omega, wb, rfl⟩
  | none =>
    dsimp only
    cases e2 : firstNo t c s.bC 0 with
    | some j =>
      have l1 := first_le e2
      have l2 := W.lC
      unfold GSt.bC at l1
      rw [List.length_map] at l1
      exact .inr ⟨_, j, _, rfl, .inr rfl, by omega, wb, rfl⟩
    | none => exact .inl ⟨rfl, rfl⟩
/-! the rows -/
def isFig (c : Nat) : Bool := decide (c ∈ TL.tl ("0123456789" : Str))
def numW (w : Str) : Option Int := if w.length ≤ 16 ∧ (TL.tl w).all isFig = true then some ((NumText.digitsVal (TL.tl w) : Nat) : Int) else none
/-- the texts in their order -/
def insS (x : Str) : List Str → List Str
  | [] => [x]
  | y :: r => if PySem.Spec.ltCps y.cps.toList x.cps.toList = true then y :: insS x r else x :: y :: r
def isort : List Str → List Str
  | [] => []
  | x :: r => insS x (isort r)
structure PSt where
  own : List Bd
  com : List Bd
  gate : Option GSt
inductive Ans
  | ok (a : Str)
  | no (i : Nat)
def PSt.made (s : PSt) : GSt := match s.gate with
  | some g => g
  | none => gst0 s.own s.com
def PSt.wg (s : PSt) (g : GSt) : PSt := ⟨s.own, s.com, some g⟩
def bdOf (kind : Str) (a b : Int) : Bd := if kind = "jar" then .jar a b else .win a b
def Bd.okB : Bd → Bool
  | .jar s f => decide (1 ≤ s) && decide (s ≤ 1000000000000000) && decide (0 ≤ f) && decide (f ≤ 1000000000)
  | .win m s => decide (1 ≤ m) && decide (m ≤ 1000000000000000) && decide (1 ≤ s) && decide (s ≤ 1000000000000)
theorem okB_iff (b : Bd) : b.okB = true ↔ b.ok := by
  cases b with
  | jar s f =>
    show (decide (1 ≤ s) && decide (s ≤ 1000000000000000) && decide (0 ≤ f) && decide (f ≤ 1000000000)) = true ↔ (1 ≤ s ∧ s ≤ 1000000000000000 ∧ 0 ≤ f ∧ f ≤ 1000000000)
    simp only [Bool.and_eq_true, decide_eq_true_eq]
    exact ⟨fun ⟨⟨⟨a, b⟩, c⟩, d⟩ => ⟨a, b, c, d⟩, fun ⟨a, b, c, d⟩ => ⟨⟨⟨a, b⟩, c⟩, d⟩⟩
  | win m s =>
    show (decide (1 ≤ m) && decide (m ≤ 1000000000000000) && decide (1 ≤ s) && decide (s ≤ 1000000000000)) = true ↔ (1 ≤ m ∧ m ≤ 1000000000000000 ∧ 1 ≤ s ∧ s ≤ 1000000000000)
    simp only [Bool.and_eq_true, decide_eq_true_eq]
    exact ⟨fun ⟨⟨⟨a, b⟩, c⟩, d⟩ => ⟨a, b, c, d⟩, fun ⟨a, b, c, d⟩ => ⟨⟨⟨a, b⟩, c⟩, d⟩⟩
def boundR (s : PSt) (ws : List Str) : Ans × PSt :=
  if s.gate.isSome = true then (.no 5, s) else match ws with
  | [w0, w1, w2, w3] => if w1 = "jar" ∨ w1 = "window" then match numW w2, numW w3 with
      | some a, some b => if (bdOf w1 a b).okB = true then
          if w0 = "own" then (if s.own.length < 4 then (.ok "ok", ⟨s.own ++ [bdOf w1 a b], s.com, none⟩) else (.no 0, s))
          else (if s.com.length < 4 then (.ok "ok", ⟨s.own, s.com ++ [bdOf w1 a b], none⟩) else (.no 0, s))
        else (.no 0, s)
      | _, _ => (.no 5, s)
    else (.no 5, s)
  | _ => (.no 5, s)
def askR (s : PSt) (ws : List Str) : Ans × PSt := match ws with
  | [w0, w1, w2, w3] => match numW w2, numW w3 with
    | some t, some c => match refG s.made.last (.str w1) (.int t) (.int c) with
      | some i => (.no i, s.wg s.made)
      | none => (.ok (s.made.text w1 t c), if w0 = "ask" then s.wg s.made else s.wg (s.made.next w1 t c))
    | _, _ => (.no 5, s)
  | _ => (.no 5, s)
def namesT (l : List Str) : Str := if l = [] then "-" else Txt.join (" " : Str) (isort l)
def tellR (s : PSt) (ws : List Str) : Ans × PSt := match ws with
  | [w0] => if w0 = "kept" then (.ok (intS (s.made.keptN : Nat)), s.wg s.made) else (.ok (namesT (s.made.ppl.map (·.1))), s.wg s.made)
  | _ => (.no 5, s)
def stepR (s : PSt) (ws : List Str) : Ans × PSt := match ws with
  | [] => (.no 5, s)
  | w0 :: _ => if w0 = "own" ∨ w0 = "common" then boundR s ws else if w0 = "ask" ∨ w0 = "visit" then askR s ws else if w0 = "names" ∨ w0 = "kept" then tellR s ws else (.no 5, s)
def refT : Nat → Str
  | 0 => "refused: NoBound"
  | 1 => "refused: NoName"
  | 2 => "refused: NoMoment"
  | 3 => "refused: Late"
  | 4 => "refused: NoCost"
  | _ => "refused: BadRow"
def Ans.txt : Ans → Str
  | .ok a => a
  | .no i => refT i
def runR : PSt → List (List Str) → List Str
  | _, [] => []
  | s, ws :: r => (stepR s ws).1.txt :: runR (stepR s ws).2 r
def endR : PSt → List (List Str) → PSt
  | s, [] => s
  | s, ws :: r => endR (stepR s ws).2 r
theorem runR_app : ∀ (s : PSt) (a b : List (List Str)), runR s (a ++ b) = runR s a ++ runR (endR s a) b
  | _, [], _ => rfl
  | s, ws :: r, b => by rw [List.cons_append, runR, runR_app, runR, endR, List.cons_append]
theorem endR_app : ∀ (s : PSt) (a b : List (List Str)), endR s (a ++ b) = endR (endR s a) b
  | _, [], _ => rfl
  | s, ws :: r, b => by rw [List.cons_append, endR, endR_app, endR]
/-! numbers of a row; what a gate told, in words -/
theorem js_e {te : TE} {ts : List TE} {acc y : Str} {σ : L2.St} {H : Hp} {Q : Str → Hp → Prop} (h : Ev te σ H (.str y)) (hl : (acc ++ y).length ≤ 100000) (k : ∀ H1, Ex H H1 → tJs ts (acc ++ y) σ H1 Q) : tJs (te :: ts) acc σ H Q := h H (Ex.refl H) _ fun H1 e => ⟨y, rfl, sz_of hl, k H1 e⟩
theorem fmt_s {te : TE} {y : Str} {σ : L2.St} {H : Hp} (h : Ev te σ H (.str y)) (hl : y.length ≤ 100000) : Ev (tFmt te) σ H (.str y) := fun H1 e Q q => h H1 e _ fun H2 e2 => .inl ⟨y, rfl, sz_of hl, q H2 e2⟩
theorem fmt_i {te : TE} {i : Int} {σ : L2.St} {H : Hp} (h : Ev te σ H (.int i)) (hl : i.natAbs.log2 < 1920) : Ev (tFmt te) σ H (.str (intS i)) := fun H1 e Q q => h H1 e _ fun H2 e2 => .inr ⟨i, rfl, hl, q H2 e2⟩
theorem ev_strI {te : TE} {i : Int} {σ : L2.St} {H : Hp} (h : Ev te σ H (.int i)) (hl : i.natAbs.log2 < 1920) : Ev (tCB (fun xs H Q => ∃ i, xs = [V.int i] ∧ i.natAbs.log2 < 1920 ∧ Q (V.str (Str.ofString (toString i))) H) (tCons te tNil)) σ H (.str (intS i)) := fun H1 e Q q => h H1 e _ fun H2 e2 => ⟨i, rfl, hl, q H2 e2⟩
theorem log_14 {i : Int} (h0 : 0 ≤ i) (h1 : i ≤ 2000000000000) : i.natAbs.log2 < 1920 := by
  by_cases z : i.natAbs = 0
  · rw [z]
    decide
  · have h : i.natAbs < 2 ^ 48 := by
      have : i.natAbs ≤ 2000000000000 := by omega
      exact Nat.lt_of_le_of_lt this (by decide)
    exact Nat.lt_trans ((Nat.log2_lt z).mpr h) (by decide)
theorem intS_tl {i : Int} (h0 : 0 ≤ i) : TL.tl (intS i) = TL.numL i.toNat := by
  obtain ⟨n, rfl⟩ : ∃ n : Nat, i = (n : Int) := ⟨i.toNat, by omega⟩
  rw [Int.toNat_natCast]
  exact TL.tl_num n
theorem intS_len {i : Int} (h0 : 0 ≤ i) (h1 : i ≤ 2000000000000) : (intS i).length ≤ 13 := by
  rw [TL.len_tl, intS_tl h0]
  exact TL.numL_len (by decide) (by omega)
theorem shutT_len {w : Str} {k : Nat} {o : Option Int} (hw : w = "own" ∨ w = "common") (hk : k ≤ 100) (ho : ∀ i, o = some i → 0 ≤ i ∧ i ≤ 2000000000000) : (shutT w k o).length ≤ 100 := by
  have lw : w.length ≤ 6 := by rcases hw with rfl | rfl <;> decide +kernel
  have lk := intS_len (i := (k : Int)) (by omega) (by omega)
  have l1 : ("shut " : Str).length = 5 := by decide +kernel
  have l2 : (" " : Str).length = 1 := by decide +kernel
  have l3 : Str.empty.length = 0 := by decide +kernel
  have l4 : ("never" : Str).length = 5 := by decide +kernel
  unfold shutT
  simp only [strLen_append, l1, l2, l3]
  cases o with
  | none =>
    have l5 : (neverT none).length = 5 := l4
    omega
  | some i =>
    have li : (neverT (some i)).length ≤ 13 := intS_len (ho i rfl).1 (ho i rfl).2
    omega
def spNum (cR : Addr) : Sp := fun vs H Q E => ∃ w : Str, vs = [.str w] ∧ TL.tl w ≠ [] ∧ w.length ≤ 600 ∧ (∀ n, numW w = some n → ∀ H2, Ex H H2 → Q (.int n) H2) ∧ (numW w = none → ∀ H2, Ex H H2 → E (.ref cR) none H2)
def spLen (cR : Addr) : Sp := fun vs H Q E => ∃ (l : Addr) (ws : List Str) (n : Int), vs = [.ref l, .int n] ∧ H l = some (.lst (ws.map V.str)) ∧ (∀ w ∈ ws, w.length ≤ 600) ∧ ws ≠ [] ∧ 0 ≤ n ∧ n ≤ 100 ∧ ((ws.length : Int) = n → ∀ H2, Ex H H2 → Q .non H2) ∧ ((ws.length : Int) ≠ n → ∀ H2, Ex H H2 → E (.ref cR) none H2)
def RShown (vs : List V) (H : Hp) (v : V) : Prop := ∃ p l x, vs = [.ref p] ∧ H p = some (.tup l) ∧ ShT l x ∧ v = .str x
theorem figs_all {w : Str} (h : (TL.tl w).all isFig = true) : NumText.AllDigits (TL.tl w) := fun c hc => by
  have z := List.all_eq_true.mp h c hc
  unfold isFig at z
  have z := of_decide_eq_true z
  rw [show TL.tl ("0123456789" : Str) = [48, 49, 50, 51, 52, 53, 54, 55, 56, 57] by decide +kernel] at z
  simp only [List.mem_cons, List.not_mem_nil, or_false] at z
  omega
section
variable {P : Program} {w : World} {K : PySem.W.Frag} {mg : Str → Option Value} {base : Heap} {C cJ cW cG : Addr} {cs : Nat → Addr}
theorem cal_number {f : Addr} {fd : FuncData} (T : Blt mg) (G : Gcl mg cG cs cJ cW) (RW : Rs K mg "BadRow" (cs 5)) (F : C8.Def K mg "_number" s_number f fd) (b : Binds K fd ["word"] []) : CalX P w K mg base 1 "_number" (spNum (cs 5)) := by
  refine calX F b sc_number (fun vs H Q E h => ?_) (fun cdv A outer s H vs Q E hr h => ?_)
  · obtain ⟨w, rfl, _⟩ := h
    rfl
  · obtain ⟨z, rfl, hne, hl, q1, q2⟩ := h
    refine ⟨_, (pss_cons (ps_if (PW.pt (pw_or (pt_cmpR op_gt (pe_callB call_len_str (by rfl) T.b_len boot_len (pa_cons (pv 0) pa_nil)) (C8.pe_gc rfl G.g_MOST_FIGURES) (nomark _)) (pw_or1 (pt_not (pt_val (pe_callB (cr_all rfl) (by rfl) T.b_all (by decide +kernel) (pa_cons (pe_lc (own := [("sign", 1)]) (g := gName 1) rfl sc_number.nd (pi_str (pv 0)) (blkOk_by (own := [("sign", 1)]) (N := ["word", "sign"]) (sc := C8.fnScope s_number) (by decide +kernel)) (fun _ _ _ _ _ => pg_name (i := 1) sc_number.nd rfl (Or.inl rfl)) (fun _ _ _ _ _ => pts_nil) (fun _ _ _ _ _ => (pe_cmpR op_in_sign (pv 1) (C8.pe_gc rfl G.g_FIGURES) (by rfl)))) pa_nil)))))))
    (pss_one (ps_raise rfl (takes_of rfl rfl rfl rfl) (SkE.pmk_own1 PySem.F.excBase_ValueError RW.xP RW.gP RW.kP (raises_own RW.bP RW.tP) rfl (pe_joined (.cons pe_str (.cons (pe_fmt (C8.pe_gc rfl G.g_MOST_FIGURES)) (.cons pe_str .nil)))))))
    pss_nil)
  (pss_one (ps_ret (pe_callTy call_int_str (by rfl) T.b_int boot_int (pa_cons (pv 0) pa_nil))))), ?_⟩
    have hsz : z.cps.size ≤ 600 := hl
    have al : Ev (tCB (rAll K) (tCons (tLc (iStr (tVar 0)) (gName 1) tYes (tOp (fun x y H Q => ∃ (c : Nat) (z : Str), x = .str ⟨#[c]⟩ ∧ y = .str z ∧ Q (.bl (decide (c ∈ z.cps.toList))) H) (tVar 1) (tC (.str ("0123456789" : Str)))) [1]) tNil)) (start ["word", "sign"] [.str z]) H (.bl ((TL.tl z).all isFig)) := by
      refine ev_is (ev_allB (bs := (List.range z.cps.size).map fun i => isFig (z.cps.getD i 0)) ?_) ?_
      · refine (evw_lcP (fun i v _ => v = V.bl (isFig (z.cps.getD i 0))) (fun i v H1 H2 _ h => h) (fun i v H1 D xs ys _ h => h) (ei_s (ev_var rfl)) (by omega) (fun x => rfl) fun i H1 e1 hi => ?_).imp fun v H1 _ ⟨l, xs, ev, hl, hlen, hP⟩ => ⟨l, ev, ?_⟩
        · exact evw_v (ev_op (ev_var rfl) ev_c fun H1 _ Q q => ⟨_, _, rfl, rfl, q H1 (Ex.refl _)⟩) fun _ _ => rfl
        · rw [hl]
          refine congrArg (fun l => some (HO.lst l)) (List.ext_getElem? fun i => ?_)
          rw [List.getElem?_map, List.getElem?_map]
          by_cases hi : i < z.cps.size
          · have hx : xs[i]? = some (xs[i]'(by omega)) := List.getElem?_eq_getElem _
            rw [List.getElem?_range hi, hx, hP i _ hx]
            rfl
          · rw [List.getElem?_eq_none (by omega), List.getElem?_eq_none (by rw [List.length_range]; omega)]
            rfl
      · rw [List.all_map]
        refine congrArg V.bl ?_
        have e : TL.tl z = (List.range z.cps.size).map fun i => z.cps.getD i 0 := by
          apply List.ext_getElem
          · rw [List.length_map, List.length_range]
            exact Array.length_toList
          · intro i h1 h2
            rw [List.getElem_map, List.getElem_range]
            have : i < z.cps.size := by rw [List.length_map, List.length_range] at h2; exact h2
            show z.cps.toList[i] = z.cps.getD i 0
            rw [Array.getD_eq_getD_getElem?, Array.getElem?_eq_getElem this]
            rfl
        rw [e, List.all_map]
        rfl
    have tst : EvT (tOr (tTest (tOp (rI0 fun i j => V.bl (decide (i > j))) (tCB (fun xs H Q => ∃ z : Str, xs = [.str z] ∧ z.length ≤ sizeLine ∧ Q (.int z.length) H) (tCons (tVar 0) tNil)) (tC (.int 16)))) (tNot (tB (tCB (rAll K) (tCons (tLc (iStr (tVar 0)) (gName 1) tYes (tOp (fun x y H Q => ∃ (c : Nat) (z : Str), x = .str ⟨#[c]⟩ ∧ y = .str z ∧ Q (.bl (decide (c ∈ z.cps.toList))) H) (tVar 1) (tC (.str ("0123456789" : Str)))) [1]) tNil))))) (start ["word", "sign"] [.str z]) H (decide ((z.length : Int) > 16) || !((TL.tl z).all isFig)) := et_or (et_test (ev_op (ev_lenS (ev_var rfl) (by omega)) ev_c rv_I0)) fun _ => et_not (et_B al)
    by_cases hb : z.length ≤ 16 ∧ (TL.tl z).all isFig = true
    · have eb : (decide ((z.length : Int) > 16) || !((TL.tl z).all isFig)) = false := by
        rw [hb.2, decide_eq_false (by omega)]
        rfl
      refine q_when (et_is tst eb) (fun z => by cases z) fun _ H1 e1 => ?_
      have en : numW z = some ((NumText.digitsVal (TL.tl z) : Nat) : Int) := by
        unfold numW
        rw [if_pos hb]
      have it := PySem.intText_digits (x := z) (figs_all hb.2) hne (by omega)
      exact (ev_var (v := .str z) rfl : Ev (tVar 0) _ H1 (.str z)) H1 (Ex.refl _) _ fun H2 e2 => ⟨z, _, rfl, it, by omega, q1 _ en H2 (e1.trans e2)⟩
    · have eb : (decide ((z.length : Int) > 16) || !((TL.tl z).all isFig)) = true := by
        by_cases h1 : z.length ≤ 16
        · have h2 : (TL.tl z).all isFig = false := Bool.eq_false_iff.mpr fun h => hb ⟨h1, h⟩
          rw [h2, Bool.not_false, Bool.or_true]
        · rw [decide_eq_true (show (z.length : Int) > 16 by omega), Bool.true_or]
      have en : numW z = none := by
        unfold numW
        rw [if_neg hb]
      refine q_when (et_is tst eb) (fun _ H1 e1 => ?_) fun z => by cases z
      exact js_e ev_c (by decide +kernel) fun H2 e2 => js_e (fmt_i ev_c (by decide +kernel)) (by decide +kernel) fun H3 e3 => js_e ev_c (by decide +kernel) fun H4 e4 => q2 en H4 (((e1.trans e2).trans e3).trans e4)
theorem cal_check_length {f : Addr} {fd : FuncData} (T : Blt mg) (G : Gcl mg cG cs cJ cW) (RW : Rs K mg "BadRow" (cs 5)) (F : C8.Def K mg "_check_length" s_check_length f fd) (b : Binds K fd ["words", "many"] []) : CalX P w K mg base 1 "_check_length" (spLen (cs 5)) := by
  refine calX F b sc_check_length (fun vs H Q E h => ?_) (fun cdv A outer s H vs Q E hr h => ?_)
  · obtain ⟨l, ws, n, rfl, _⟩ := h
    rfl
  · obtain ⟨l, ws, n, rfl, hL, hw, hne, n0, n1, q1, q2⟩ := h
    refine ⟨_, (pss_one (ps_if (pt_cmpR op_ne (pe_callB call_len_seq (by rfl) T.b_len boot_len (pa_cons (pv 0) pa_nil)) (pv 1) (nomark _))
    (pss_one (ps_raise rfl (takes_of rfl rfl rfl rfl) (SkE.pmk_own1 PySem.F.excBase_ValueError RW.xP RW.gP RW.kP (raises_own RW.bP RW.tP) rfl (pe_joined (.cons pe_str (.cons (pe_fmt (pe_ix ix_list (pv 0) pe_int (fun _ _ => rfl))) (.cons pe_str (.cons (pe_fmt (pv 1)) (.cons pe_str .nil)))))))))
    pss_nil)), ?_⟩
    have tst : EvT (tTest (tOp rNe (tCB (fun xs H Q => ∃ p ys, xs = [.ref p] ∧ (SqL K H p ys ∨ SqT K H p ys) ∧ Q (.int ys.length) H) (tCons (tVar 0) tNil)) (tVar 1))) (start ["words", "many"] [.ref l, .int n]) H (!decide (V.int (ws.length : Int) = V.int n)) := et_test (ev_op (ev_is (ev_lenL (K := K) (ev_var rfl) (sq_of hL)) (by rw [List.length_map])) (ev_var rfl) (rv_ne rfl))
    by_cases e : (ws.length : Int) = n
    · refine s_when (b := false) (et_is tst (by rw [e, decide_eq_true rfl]; rfl)) (fun z => by cases z) fun _ H1 e1 => q1 e H1 e1
    · refine s_when (b := true) (et_is tst (by rw [decide_eq_false (fun z => e (by injection z))]; rfl)) (fun _ H1 e1 => ?_) fun z => by cases z
      cases ws with
      | nil => exact absurd rfl hne
      | cons w0 r =>
        have l0 := hw w0 List.mem_cons_self
        have lk : (intS n).length ≤ 13 := intS_len n0 (by omega)
        have a1 : ("a row that begins with " : Str).length = 23 := by decide +kernel
        have a2 : (" has " : Str).length = 5 := by decide +kernel
        have a3 : (" words" : Str).length = 6 := by decide +kernel
        have a4 : Str.empty.length = 0 := by decide +kernel
        refine js_e ev_c (by decide +kernel) fun H2 e2 => js_e (fmt_s (ev_ixL (K := K) (i := 0) (v := .str w0) (ev_var rfl) ev_c (sq_of (e2 _ _ (e1 _ _ hL))) (atI_nat (j := 0) (by rfl))) (by omega)) (by simp only [strLen_append, a1, a4]; omega) fun H3 e3 => js_e ev_c (by simp only [strLen_append, a1, a2, a4]; omega) fun H4 e4 => js_e (fmt_i (ev_var rfl) (log_14 n0 (by omega))) (by simp only [strLen_append, a1, a2, a4]; omega) fun H5 e5 => js_e ev_c (by simp only [strLen_append, a1, a2, a3, a4]; omega) fun H6 e6 => ?_
        exact q2 e H6 ((((e1.trans e2).trans e3).trans e4).trans (e5.trans e6))
theorem d_shut : decide (V.str "shut" = V.str "open") = false := by decide +kernel
theorem cal_shown {f : Addr} {fd : FuncData} (T : Blt mg) (F : C8.Def K mg "_shown" s_shown f fd) (b : Binds K fd ["told"] []) : C8.Cal P w K mg base 1 "_shown" (spF RShown) [] := by
  refine calF F b sc_shown (fun vs H v h => ?_) (fun cdv A outer s H vs v E hr h => ?_)
  · obtain ⟨p, l, x, rfl, _⟩ := h
    rfl
  · obtain ⟨p, l, x, rfl, hp, hx, rfl⟩ := h
    refine ⟨_, (pss_cons (ps_if (pt_cmpR op_eq (pe_ix ix_tup (pv 0) pe_int (fun _ _ => rfl)) pe_str (nomark _))
    (pss_one (ps_ret pe_str))
    pss_nil)
  (pss_cons (ps_asg (pv 0) (pg_tup rfl (pgs_cons (pg_name (i := 1) sc_shown.nd rfl (Or.inl rfl)) (pgs_cons (pg_name (i := 2) sc_shown.nd rfl (Or.inl rfl)) (pgs_cons (pg_name (i := 3) sc_shown.nd rfl (Or.inl rfl)) (pgs_cons (pg_name (i := 4) sc_shown.nd rfl (Or.inl rfl)) pgs_nil))))))
  (pss_cons (ps_set (i := 5) sc_shown.nd rfl (Or.inl rfl) (pe_ifExp (pt_cmp (pc_isN (pv 4))) pe_str (pe_callTy call_str_int (by rfl) T.b_str boot_str (pa_cons (pv 4) pa_nil))))
  (pss_one (ps_ret (pe_joined (.cons pe_str (.cons (pe_fmt (pv 2)) (.cons pe_str (.cons (pe_fmt (pv 3)) (.cons pe_str (.cons (pe_fmt (pv 5)) .nil)))))))))))), ?_⟩
    rcases hx with ⟨rfl, rfl⟩ | ⟨w, k, o, rfl, hw, hk, ho, rfl⟩
    · exact rt_ifseq (b := true) (et_is (et_test (ev_op (ev_ixT (K := K) (v := .str "open") (ev_var rfl) ev_c (st_of hp) rfl) ev_c (rv_eq rfl))) (by decide +kernel)) (fun _ => rt_ret ev_c) fun z => by cases z
    · have hT : SqT K H p (shutL w k o) := st_of hp
      refine rt_ifseq (b := false) (et_is (et_test (ev_op (ev_ixT (K := K) (v := .str "shut") (ev_var rfl) ev_c hT rfl) ev_c (rv_eq rfl))) d_shut) (fun z => by cases z) fun _ => ?_
      have lw : w.length ≤ 6 := by rcases hw with rfl | rfl <;> decide +kernel
      have lk := intS_len (i := (k : Int)) (by omega) (by omega)
      have l1 : ("shut " : Str).length = 5 := by decide +kernel
      have l2 : (" " : Str).length = 1 := by decide +kernel
      have l3 : Str.empty.length = 0 := by decide +kernel
      have l4 : ("never" : Str).length = 5 := by decide +kernel
      intro H1 e1 D q
      refine ⟨_, rfl, p, shutL w k o, rfl, st_of (e1 _ _ hp), rfl, .str "shut", _, rfl, .str w, _, rfl, .int (k : Nat), _, rfl, opV o, _, rfl, rfl, ?_⟩
      have wt : Ev (tIf (tB (tIsN (tVar 4))) (tC (.str "never")) (tCB (fun xs H Q => ∃ i, xs = [V.int i] ∧ i.natAbs.log2 < 1920 ∧ Q (V.str (Str.ofString (toString i))) H) (tCons (tVar 4) tNil))) [some (.ref p), some (.str "shut"), some (.str w), some (.int (k : Nat)), some (opV o), none] H1 (.str (neverT o)) := by
        cases o with
        | none => exact ev_if (b := true) (et_B (ev_isN (ev_var (v := .non) rfl))) (fun _ => ev_c) fun z => by cases z
        | some i => exact ev_if (b := false) (et_B (ev_isN (ev_var (v := .int i) rfl))) (fun z => by cases z) fun _ => ev_strI (ev_var rfl) (log_14 (ho i rfl).1 (ho i rfl).2)
      have sl := shutT_len hw hk ho
      unfold shutT at sl
      refine q_asg wt fun H2 e2 => ?_
      refine js_e ev_c (by decide +kernel) fun H3 e3 => js_e (fmt_s (ev_var (v := .str w) rfl) (by omega)) (by simp only [strLen_append, l1, l3]; omega) fun H4 e4 => js_e ev_c (by simp only [strLen_append, l1, l2, l3]; omega) fun H5 e5 => js_e (fmt_i (ev_var (v := .int (k : Nat)) rfl) (log_14 (by omega) (by omega))) (by simp only [strLen_append, l1, l2, l3]; omega) fun H6 e6 => js_e ev_c (by simp only [strLen_append, l1, l2, l3]; omega) fun H7 e7 => js_e (y := (neverT o)) (fmt_s (ev_var rfl) ?_) (Nat.le_trans sl (show 100 ≤ 100000 by decide)) fun H8 e8 => ?_
      · cases o with
        | none => exact Nat.le_trans (Nat.le_of_eq l4) (by decide)
        | some i =>
          have li := intS_len (ho i rfl).1 (ho i rfl).2
          exact Nat.le_trans li (by decide)
      · exact q H8 ((((e2.trans e3).trans e4).trans (e5.trans e6)).trans (e7.trans e8))
end
/-! a player of rows -/
structure ClPl (K : PySem.W.Frag) (C : Addr) : Prop where
  cl : Cls K C
  n1 : NoAttr K C "_bounds"
  n2 : NoAttr K C "_gate"
def fPl (d : Addr) (gv : V) : List (Str × V) := [("_bounds", .ref d), ("_gate", gv)]
def dPl (lo lc : Addr) : HO := .dK [(Sum.inr "own", .ref lo), (Sum.inr "common", .ref lc)]
structure Pl0 (cP : Addr) (A : GA) (own com : List Bd) (p d lo lc : Addr) (H : Hp) : Prop where
  ob : ∃ dx, H p = some (.ins cP dx (fPl d .non))
  bd : ∃ yo yc, H d = some (dPl lo lc) ∧ H lo = some (.lst (yo.map V.ref)) ∧ Paired (fun bd y => BdAt A.J A.W bd y H) own yo ∧ H lc = some (.lst (yc.map V.ref)) ∧ Paired (fun bd y => BdAt A.J A.W bd y H) com yc
  okO : ∀ b ∈ own, b.ok
  okC : ∀ b ∈ com, b.ok
  lO : own.length ≤ 4
  lC : com.length ≤ 4
structure Pl1 (cP : Addr) (A : GA) (st : GSt) (p : Addr) (c : GC) (n : Nat) (H : Hp) : Prop where
  ob : ∃ dx d, H p = some (.ins cP dx (fPl d (.ref c.g)))
  g : ∃ H0, GateR A H0 st c H ∧ ∀ b o, H0 b = some o → ∃ C dx fs, o = HO.ins C dx fs
  wf : GWf st n
  cb : CB st
  tp : c.τ p = none
  nl : ∀ r ∈ st.ppl, r.1.length ≤ 600
def T0 (p d lo lc : Addr) (b : Addr) : Prop := b = p ∨ b = d ∨ b = lo ∨ b = lc
def T1 (p : Addr) (c : GC) (b : Addr) : Prop := b = p ∨ c.τ b ≠ none
def PlS (cP : Addr) (A : GA) (s : PSt) (p : Addr) (T : Addr → Prop) (n : Nat) (H : Hp) : Prop := (s.gate = none ∧ ∃ d lo lc, Pl0 cP A s.own s.com p d lo lc H ∧ T = T0 p d lo lc) ∨ ∃ st c, s.gate = some st ∧ Pl1 cP A st p c n H ∧ T = T1 p c
def Keep (T : Addr → Prop) (H H2 : Hp) : Prop := ∀ b o, ¬ T b → H b = some o → H2 b = some o
def Grow (T T' : Addr → Prop) (H : Hp) : Prop := ∀ b, T' b → T b ∨ H b = none
theorem Keep.ex {T : Addr → Prop} {H H2 : Hp} (e : Ex H H2) : Keep T H H2 := fun b o _ h => e b o h
theorem Keep.after {T : Addr → Prop} {H H1 H2 : Hp} (e : Ex H H1) (k : Keep T H1 H2) : Keep T H H2 := fun b o n h => k b o n (e b o h)
theorem Keep.then {T : Addr → Prop} {H H1 H2 : Hp} (k : Keep T H H1) (e : Ex H1 H2) : Keep T H H2 := fun b o n h => e _ _ (k b o n h)
theorem Grow.refl (T : Addr → Prop) (H : Hp) : Grow T T H := fun _ h => .inl h
theorem Grow.back {T T' : Addr → Prop} {H H1 : Hp} (e : Ex H H1) (g : Grow T T' H1) : Grow T T' H := fun b h => (g b h).imp id (fresh_back e)
section
variable {cP : Addr} {A : GA} {own com : List Bd} {p d lo lc : Addr} {H H2 : Hp} {st : GSt} {c : GC} {n : Nat} {s : PSt} {T : Addr → Prop}
theorem Pl0.mono (h : Pl0 cP A own com p d lo lc H) (e : Ex H H2) : Pl0 cP A own com p d lo lc H2 := by
  obtain ⟨⟨dx, h1⟩, ⟨yo, yc, a, b, cc, dd, ee⟩, h3, h4, h5, h6⟩ := h
  exact ⟨⟨dx, e _ _ h1⟩, ⟨yo, yc, e _ _ a, e _ _ b, paired_imp cc fun _ _ z => z.mono e, e _ _ dd, paired_imp ee fun _ _ z => z.mono e⟩, h3, h4, h5, h6⟩
theorem Pl1.mono (h : Pl1 cP A st p c n H) (e : Ex H H2) : Pl1 cP A st p c n H2 := by
  obtain ⟨⟨dx, d, h1⟩, ⟨H0, h2, hI⟩, h3, h4, h5, h6⟩ := h
  exact ⟨⟨dx, d, e _ _ h1⟩, ⟨H0, h2.mono e, hI⟩, h3, h4, h5, h6⟩
theorem Pl1.up {m : Nat} (h : Pl1 cP A st p c n H) (k : n ≤ m) : Pl1 cP A st p c m H := ⟨h.ob, h.g, h.wf.up k, h.cb, h.tp, h.nl⟩
theorem PlS.mono (h : PlS cP A s p T n H) (e : Ex H H2) : PlS cP A s p T n H2 := h.imp (fun ⟨a, d, lo, lc, b, c⟩ => ⟨a, d, lo, lc, b.mono e, c⟩) fun ⟨st, c, a, b, d⟩ => ⟨st, c, a, b.mono e, d⟩
theorem PlS.up {m : Nat} (h : PlS cP A s p T n H) (k : n ≤ m) : PlS cP A s p T m H := h.imp id fun ⟨st, c, a, b, d⟩ => ⟨st, c, a, b.up k, d⟩
theorem PlS.live (h : PlS cP A s p T n H) {b : Addr} (hb : T b) : ∃ o, H b = some o := by
  rcases h with ⟨_, d, lo, lc, h, rfl⟩ | ⟨st, c, _, h, rfl⟩
  · obtain ⟨_, _, h1, h2, _, h3, _⟩ := h.bd
    rcases hb with rfl | rfl | rfl | rfl
    · obtain ⟨dx, h1⟩ := h.ob
      exact ⟨_, h1⟩
    · exact ⟨_, h1⟩
    · exact ⟨_, h2⟩
    · exact ⟨_, h3⟩
  · rcases hb with rfl | hb
    · obtain ⟨dx, d, h1⟩ := h.ob
      exact ⟨_, h1⟩
    · obtain ⟨H0, g, _⟩ := h.g
      obtain ⟨_, o, h1, _⟩ := g.kd b hb
      exact ⟨o, h1⟩
theorem PlS.mine (h : PlS cP A s p T n H) : T p := by
  rcases h with ⟨_, d, lo, lc, _, rfl⟩ | ⟨st, c, _, _, rfl⟩
  · exact .inl rfl
  · exact .inl rfl
theorem PlS.ob (h : PlS cP A s p T n H) : ∃ dx d gv, H p = some (.ins cP dx (fPl d gv)) := by
  rcases h with ⟨_, d, lo, lc, h, _⟩ | ⟨st, c, _, h, _⟩
  · obtain ⟨dx, h1⟩ := h.ob
    exact ⟨dx, d, _, h1⟩
  · obtain ⟨dx, d, h1⟩ := h.ob
    exact ⟨dx, d, _, h1⟩
theorem bd_ne {cJ cW : Addr} {bd : Bd} {y dx : Addr} {gv : V} (hy : BdAt cJ cW bd y H) (hp : H p = some (.ins cP dx (fPl d gv))) : y ≠ p := fun z => by
  rw [z] at hy
  cases bd with
  | jar s f =>
    obtain ⟨dy, hy⟩ := hy
    rw [hp] at hy
    injection hy with hy
    injection hy with _ _ hy
    unfold fPl fJar at hy
    injection hy with hy _
    injection hy with hy _
    exact absurd hy (by decide +kernel)
  | win m q =>
    obtain ⟨dy, hy⟩ := hy
    rw [hp] at hy
    injection hy with hy
    injection hy with _ _ hy
    unfold fPl fWin at hy
    injection hy with hy _
    injection hy with hy _
    exact absurd hy (by decide +kernel)
end
theorem paired_mem {α β : Type} {R : α → β → Prop} {xs : List α} {ys : List β} (h : Paired R xs ys) : Paired (fun x y => R x y ∧ y ∈ ys) xs ys := by
  induction h with
  | nil => exact .nil
  | cons h _ ih => exact .cons ⟨h, List.mem_cons_self⟩ (paired_imp ih fun x y z => ⟨z.1, List.mem_cons_of_mem _ z.2⟩)
theorem paired_ex {α β : Type} {R : α → β → Prop} {xs : List α} {ys : List β} (h : Paired R xs ys) {y : β} (hy : y ∈ ys) : ∃ x, R x y := by
  obtain ⟨i, hi⟩ := List.getElem?_of_mem hy
  obtain ⟨x, _, r⟩ := paired_at h hi
  exact ⟨x, r⟩
theorem gwf0 {o c : List Bd} (okO : ∀ b ∈ o, b.ok) (okC : ∀ b ∈ c, b.ok) (lO : o.length ≤ 4) (lC : c.length ≤ 4) (n : Nat) : GWf (gst0 o c) n :=
  ⟨okO, okC, lO, lC, ⟨fun i h => absurd h (Nat.not_lt_zero _), fun i j _ h => absurd h (Nat.not_lt_zero _)⟩, fun _ h => (by cases h), Nat.zero_le _, fun p hp => (by cases hp), Nat.zero_le _, ⟨Int.le_refl _, by show (0 : Int) ≤ 1000000000000; decide⟩, List.nodup_nil⟩
theorem val_com {a b : V} : valV [((Sum.inr "own" : Key), a), (Sum.inr "common", b)] (Sum.inr "common") = some b := by
  rw [valV_neg (fun z => by injection z with z; exact absurd z (by decide +kernel))]
  exact valV_pos rfl
theorem fldmk_go {K : PySem.W.Frag} {ta : TE} {C : Addr} {sp : Sp} {E : XK} {t : TA} {f : Str} {D : Ends} {σ : L2.St} {H : Hp} {vs : List V} (h : EvA t σ H vs) (k : ∀ H1, Ex H H1 → ∀ x dx, H1 x = none → H1 dx = none → dx ≠ x → sp (.ref x :: (vs ++ [])) (upd (upd H1 dx (.own x)) x (.ins C dx [])) (fun v H2 => v = .non ∧ ta σ H2 fun x1 H3 => ∃ a C1 dx1 fs, x1 = .ref a ∧ H3 a = some (.ins C1 dx1 fs) ∧ Cls K C1 ∧ NoAttr K C1 f ∧ fs.length < 1000 ∧ D.nx σ (upd H3 a (.ins C1 dx1 (putF f (.ref x) fs)))) E) : sFld K ta (tMake C sp [] E t) f D σ H := h H (Ex.refl H) _ k
def spPInit (cP : Addr) (A : GA) : Sp := fun vs H Q _ => ∃ x dx, vs = [.ref x] ∧ H x = some (.ins cP dx []) ∧ ∀ H2 d lo lc, (∀ b o, b ≠ x → H b = some o → H2 b = some o) → H d = none → H lo = none → H lc = none → Pl0 cP A [] [] x d lo lc H2 → Q .non H2
def spMade (cP : Addr) (A : GA) : Sp := fun vs H Q _ => ∃ s p T n, vs = [.ref p] ∧ PlS cP A s p T n H ∧ ∀ H2 c, Pl1 cP A s.made p c n H2 → Keep T H H2 → Grow T (T1 p c) H → Q (.ref c.g) H2
section
variable {P : Program} {w : World} {K : PySem.W.Frag} {mg : Str → Option Value} {base : Heap} {C cP cJ cW cG : Addr} {cs : Nat → Addr} {A : GA}
theorem mak_Player {f : Addr} {fd : FuncData} (k : ClPl K cP) (M : Mk K cP f) (hm : mg "Player" = some (.ref cP)) (F : C8.Fun K "__init__" "Player.__init__" s_Player_init f fd) (b : Binds K fd ["self"] []) : C8.Mak P w K mg base 1 "Player" cP (spPInit cP A) [] := by
  obtain ⟨cl, n1, n2⟩ := k
  refine C8.mak0 M hm F b .nil sc_Player_init (fun vs H Q E h => ?_) (fun cdv A outer s H vs Q E hr h => ?_)
  · obtain ⟨x, dx, rfl, _⟩ := h
    rfl
  · obtain ⟨x, dx, rfl, hx, q⟩ := h
    refine ⟨_, (pss_cons (ps_fld (pv 0) (pe_disp (pps_cons pe_str (pe_lst pa_nil) (pps_cons pe_str (pe_lst pa_nil) pps_nil)) (by rfl) (by rfl) (fun z => by cases z) (by decide)) rfl)
  (pss_one (ps_fld (pv 0) pe_non rfl))), ?_⟩
    intro d nd
    have nxd : x ≠ d := ne_of_none hx nd
    have e1 := Ex.new (o := HO.dK []) nd
    refine ev_c _ (Ex.refl _) _ fun H1 g1 => ?_
    refine (el_lst ea_nil (by decide) : EvL (tLst tNil) _ H1 []) H1 (Ex.refl _) _ fun lo H2 nlo g2 hlo => ?_
    refine ev_c _ (Ex.refl _) _ fun H3 g3 => ?_
    refine (el_lst ea_nil (by decide) : EvL (tLst tNil) _ H3 []) H3 (Ex.refl _) _ fun lc H4 nlc g4 hlc => ?_
    have e14 := ((g1.trans g2).trans g3).trans g4
    have hd4 : H4 d = some (.dK []) := e14 _ _ upd_same
    refine ⟨hd4, [(Sum.inr "own", .ref lo), (Sum.inr "common", .ref lc)], rfl, (show 2 ≤ 15 by decide), ?_⟩
    have hx4 : H4 x = some (.ins cP dx []) := e14 _ _ (e1 _ _ hx)
    have hlo4 := (g3.trans g4) _ _ hlo
    have nlod : lo ≠ d := (ne_of hd4 hlo4 (by intro h; cases h)).symm
    have nlcd : lc ≠ d := (ne_of hd4 hlc (by intro h; cases h)).symm
    have nlox : lo ≠ x := (ne_of hx4 hlo4 (by intro h; cases h)).symm
    have nlcx : lc ≠ x := (ne_of hx4 hlc (by intro h; cases h)).symm
    refine ⟨_, rfl, x, cP, dx, _, rfl, by rw [upd_ne nxd]; exact hx4, cl, n1, by show 0 < 1000; decide, ?_⟩
    refine ⟨_, rfl, x, cP, dx, _, rfl, upd_same, cl, n2, by show 1 < 1000; decide, ?_⟩
    refine q _ d lo lc (fun b o hb ho => ?_) nd (fresh_back (e1.trans g1) nlo) (fresh_back (((e1.trans g1).trans g2).trans g3) nlc) ⟨⟨dx, upd_same⟩, ⟨[], [], ?_, ?_, .nil, ?_, .nil⟩, fun _ h => (by cases h), fun _ h => (by cases h), by decide, by decide⟩
    · have nbd : b ≠ d := ne_of_none ho nd
      rw [upd_ne hb, upd_ne hb, upd_ne nbd]
      exact e14 _ _ (e1 _ _ ho)
    · rw [upd_ne nxd.symm, upd_ne nxd.symm, upd_same]
      rfl
    · rw [upd_ne nlox, upd_ne nlox, upd_ne nlod]
      exact hlo4
    · rw [upd_ne nlcx, upd_ne nlcx, upd_ne nlcd]
      exact hlc
theorem met_made {f : Addr} {fd : FuncData} (T : Blt mg) (k : ClPl K cP) (m_Gate : MakX P w K mg base 5 "Gate" A.gt (spGInit K A (cs 0)) ["self", "own", "common"]) (me : Meth K cP "_made_gate" f) (F : C8.Fun K "_made_gate" "Player._made_gate" s_Player__made_gate f fd) (b : Binds K fd ["self"] []) : C8.Met P w K mg base 7 cP "_made_gate" (spMade cP A) [] := by
  obtain ⟨cl, n1, n2⟩ := k
  refine C8.met0 cl me F b sc_Player__made_gate (fun vs H Q E h => ?_) (fun cdv A' outer s H vs Q E hr h => ?_)
  · obtain ⟨s, p, T, n, rfl, _⟩ := h
    rfl
  · obtain ⟨s, p, T, n, rfl, hS, q⟩ := h
    refine ⟨_, (pss_cons (ps_if (pt_cmp (pc_isN (pe_fld (pv 0) rfl)))
    (pss_one (ps_fld (pv 0) (pe_mkX9 m_Gate passF hr (by decide) rfl (pa_cons (pe_dget (hu_of hr) (pe_fld (pv 0) rfl) pe_str (fun _ _ => rfl)) (pa_cons (pe_dget (hu_of hr) (pe_fld (pv 0) rfl) pe_str (fun _ _ => rfl)) pa_nil))) rfl))
    pss_nil)
  (pss_one (ps_ret (pe_fld (pv 0) rfl)))), ?_⟩
    rcases hS with ⟨hg, d, lo, lc, h, rfl⟩ | ⟨st, c, hg, h, rfl⟩
    · obtain ⟨dx, hob⟩ := h.ob
      obtain ⟨yo, yc, hd, hlo, hbo, hlc, hbc⟩ := h.bd
      have em : s.made = gst0 s.own s.com := by
        unfold PSt.made
        rw [hg]
      have lo4 := Paired.length hbo
      have lc4 := Paired.length hbc
      refine q_mid (fun σ' H' => σ' = start ["self"] [.ref p] ∧ ∃ c, Pl1 cP A s.made p c n H' ∧ Keep (T0 p d lo lc) H H' ∧ Grow (T0 p d lo lc) (T1 p c) H) (fun σ' H2 hM => ?_) fun kM => ?_
      · obtain ⟨rfl, c, h1, h2, h3⟩ := hM
        obtain ⟨dx2, d2, ho2⟩ := h1.ob
        exact (ev_fld (K := K) (f := "_gate") (v := .ref c.g) (ev_var (v := .ref p) rfl) ho2 cl n2 rfl : Ev _ _ H2 _) H2 (Ex.refl _) _ fun H3 e3 => q H3 c (h1.mono e3) (h2.then e3) h3
      · refine s_when (D := { nx := _, rt := Q }) (b := true) (et_B (ev_isN (x := .non) (ev_fld (K := K) (ev_var (v := .ref p) rfl) hob cl n2 rfl))) (fun _ H1 e1 => ?_) fun z => by cases z
        have hob1 := e1 _ _ hob
        have hd1 := e1 _ _ hd
        have gO : Ev (tDGet (tFld K (tVar 0) "_bounds") (tC (.str "own"))) (start ["self"] [.ref p]) H1 (.ref lo) := ev_dget (k := Sum.inr "own") (ev_fld (K := K) (ev_var (v := .ref p) rfl) hob1 cl n1 rfl) ev_c hd1 rfl
        have gC : Ev (tDGet (tFld K (tVar 0) "_bounds") (tC (.str "common"))) (start ["self"] [.ref p]) H1 (.ref lc) := ev_dget (k := Sum.inr "common") (ev_fld (K := K) (ev_var (v := .ref p) rfl) hob1 cl n1 rfl) ev_c hd1 val_com
        refine fldmk_go (ea_cons gO (ea_cons gC ea_nil)) fun H2 e2 x dx' nx ndx ne => ?_
        have e12 := e1.trans e2
        have eN : Ex H2 (upd (upd H2 dx' (.own x)) x (.ins A.gt dx' [])) := (Ex.new ndx).trans (Ex.new (by rw [upd_ne ne.symm]; exact nx))
        have hbo2 := paired_imp hbo fun _ _ z => z.mono e12
        have hbc2 := paired_imp hbc fun _ _ z => z.mono e12
        refine ⟨H2, x, dx', lo, yo.map V.ref, .ref lc, rfl, upd_same, nx, eN, .inl (sq_of (e12 _ _ hlo)), by rw [List.length_map, ← lo4]; have := h.lO; omega, .inr ⟨s.own, ⟨yo, rfl, hbo2, h.lO⟩, .inr ⟨lc, yc.map V.ref, rfl, .inl (sq_of (e12 _ _ hlc)), by rw [List.length_map, ← lc4]; have := h.lC; omega, .inr ⟨s.com, ⟨yc, rfl, hbc2, h.lC⟩, fun H3 c e3 hcg hys R => ⟨rfl, ?_⟩⟩⟩⟩⟩
        have hob3 := e3 _ _ (e12 _ _ hob)
        refine ⟨_, rfl, p, cP, dx, _, rfl, hob3, cl, n2, by show 2 < 1000; decide, ?_⟩
        have tp : c.τ p = none := by
          cases hz : c.τ p with
          | none => rfl
          | some j =>
            have := (R.kd p (by rw [hz]; exact fun z => by cases z)).1
            rw [e12 _ _ hob] at this
            cases this
        have eys : c.ys = yo := by
          have z := congrArg List.length hys
          rw [List.length_map, List.length_map] at z
          refine List.ext_getElem z fun i h1 h2 => ?_
          have y : (c.ys.map V.ref)[i]'(by rw [List.length_map]; exact h1) = (yo.map V.ref)[i]'(by rw [List.length_map]; exact h2) := by
            congr 1
          rw [List.getElem_map, List.getElem_map] at y
          injection y
        have npy : p ∉ yo := fun z => by
          obtain ⟨bd, hb⟩ := paired_ex hbo2 z
          exact bd_ne hb (e12 _ _ hob) rfl
        have eHb : Ex (fun b => if b ∈ yo then H2 b else none) H2 := fun b o hb => by
          have hb : (if b ∈ yo then H2 b else none) = some o := hb
          by_cases z : b ∈ yo
          · rwa [if_pos z] at hb
          · rw [if_neg z] at hb
            cases hb
        have hI : ∀ b o, (fun b => if b ∈ yo then H2 b else none) b = some o → ∃ C dx fs, o = HO.ins C dx fs := fun b o hb => by
          have hb : (if b ∈ yo then H2 b else none) = some o := hb
          by_cases z : b ∈ yo
          · rw [if_pos z] at hb
            obtain ⟨bd, hbd⟩ := paired_ex hbo2 z
            cases bd with
            | jar s f =>
              obtain ⟨dy, hy⟩ := hbd
              rw [hb] at hy
              injection hy with hy
              exact ⟨_, _, _, hy⟩
            | win s f =>
              obtain ⟨dy, hy⟩ := hbd
              rw [hb] at hy
              injection hy with hy
              exact ⟨_, _, _, hy⟩
          · rw [if_neg z] at hb
            cases hb
        have R2 := R.rebase eHb (by
          rw [eys]
          refine paired_imp (paired_mem hbo2) fun bd y z => ?_
          have my := z.2
          replace z := z.1
          cases bd with
          | jar s f =>
            obtain ⟨dy, hy⟩ := z
            exact ⟨dy, by show (if y ∈ yo then H2 y else none) = _; rw [if_pos my]; exact hy⟩
          | win s f =>
            obtain ⟨dy, hy⟩ := z
            exact ⟨dy, by show (if y ∈ yo then H2 y else none) = _; rw [if_pos my]; exact hy⟩)
        have R3 : GateR A (fun b => if b ∈ yo then H2 b else none) (gst0 s.own s.com) c (upd H3 p (.ins cP dx (putF "_gate" (.ref x) (fPl d .non)))) := R2.keep (F := fun b => b ≠ p) (fun b o hb h => by rw [upd_ne hb]; exact h) (fun b hb z => hb (by rw [z]; exact tp)) (fun b hb => by rw [Classical.not_not.mp hb]; exact if_neg npy) fun b hb zs z => by
          rw [Classical.not_not.mp hb, hob3] at z
          cases z
        refine kM _ _ ⟨rfl, c, ⟨⟨dx, d, ?_⟩, ⟨_, by rw [em]; exact R3, hI⟩, by rw [em]; exact gwf0 h.okO h.okC h.lO h.lC n, by rw [em]; exact CB.nil _ _, tp, by rw [em]; exact fun r h => (by cases h)⟩, fun b o hb ho => ?_, fun b hb => ?_⟩
        · rw [upd_same, hcg]
          rfl
        · rw [upd_ne (fun z => hb (.inl z))]
          exact e3 _ _ (e12 _ _ ho)
        · rcases hb with z | z
          · exact .inl (.inl z)
          · exact .inr (fresh_back e12 (R.kd b z).1)
    · obtain ⟨dx, d, hob⟩ := h.ob
      have em : s.made = st := by
        unfold PSt.made
        rw [hg]
      refine q_when (b := false) (et_B (ev_isN (x := .ref c.g) (ev_fld (K := K) (ev_var (v := .ref p) rfl) hob cl n2 rfl))) (fun z => by cases z) fun _ H1 e1 => ?_
      have h1 := h.mono e1
      exact (ev_fld (K := K) (f := "_gate") (v := .ref c.g) (ev_var (v := .ref p) rfl) (e1 _ _ hob) cl n2 rfl : Ev _ _ H1 _) H1 (Ex.refl _) _ fun H2 e2 => q H2 c (by rw [em]; exact h1.mono e2) (Keep.ex (e1.trans e2)) (Grow.refl _ _)
end
/-! the player's answers -/
theorem q_dropM {te : TE} {u : TS} {D : Ends} {σ : L2.St} {H : Hp} (h : te σ H fun _ H1 => u D σ H1) : tSeq (tDrop te) u D σ H := h
theorem q_asgM {te : TE} {i : Nat} {u : TS} {D : Ends} {σ : L2.St} {H : Hp} (h : te σ H fun v H1 => u D (σ.set i (some v)) H1) : tSeq (tAsg te (gName i)) u D σ H := h
theorem ret_go {te : TE} {D : Ends} {σ : L2.St} {H : Hp} (h : te σ H D.rt) : tRet te D σ H := h
theorem tcall_go {sp : Sp} {E : XK} {ta : TA} {σ : L2.St} {H : Hp} {vs : List V} {Q : VK} (h : EvA ta σ H vs) (k : ∀ H1, Ex H H1 → sp (vs ++ []) H1 Q E) : tCall sp [] E ta σ H Q := h H (Ex.refl H) _ k
theorem tmeth_go {C : Addr} {m : Str} {sp : Sp} {E : XK} {to : TE} {ta : TA} {σ : L2.St} {H : Hp} {a dx : Addr} {fs : List (Str × V)} {vs : List V} {Q : VK} (ho : Ev to σ H (.ref a)) (hx : H a = some (.ins C dx fs)) (hm : fs.lookup m = none) (h : EvA ta σ H vs) (k : ∀ H1, Ex H H1 → sp (.ref a :: vs ++ []) H1 Q E) : tMeth C m sp [] E to ta σ H Q :=
  ho H (Ex.refl H) _ fun H1 e1 => ⟨a, dx, fs, rfl, e1 _ _ hx, hm, h H1 e1 _ fun H2 e2 => k H2 (e1.trans e2)⟩
theorem call1_go {sp : Sp} {E : XK} {tm : TE} {σ : L2.St} {H : Hp} {Q : VK} (h : tm σ H fun v H1 => sp ([v] ++ []) H1 Q E) : tCall sp [] E (tCons tm tNil) σ H Q := h
theorem in2V (w a b : Str) : inV (.str w) [.str a, .str b] = decide (w = a ∨ w = b) := by
  show (eqV (.str a) (.str w) || (eqV (.str b) (.str w) || false)) = _
  show ((a == w) || ((b == w) || false)) = _
  rw [Bool.or_false]
  by_cases h1 : w = a
  · rw [h1, decide_eq_true (.inl rfl)]
    simp
  · by_cases h2 : w = b
    · rw [h2, decide_eq_true (.inr rfl)]
      simp
    · rw [decide_eq_false (fun z => z.elim h1 h2)]
      have e1 : (a == w) = false := by simpa using fun z : a = w => h1 z.symm
      have e2 : (b == w) = false := by simpa using fun z : b = w => h2 z.symm
      rw [e1, e2]
      rfl
theorem ev_in2 {K : PySem.W.Frag} {ta : TE} {σ : L2.St} {H : Hp} {w a b : Str} (ha : Ev ta σ H (.str w)) : Ev (tOp (rIn K false) ta (tTup (tCons (tC (.str a)) (tCons (tC (.str b)) tNil)))) σ H (.bl (decide (w = a ∨ w = b))) := fun H1 e Q q =>
  ha H1 e _ fun H2 e2 => (eu_tup (ea_cons ev_c (ea_cons ev_c ea_nil)) (show 2 ≤ 100000 by decide) : EvU _ σ H2 [.str a, .str b]) H2 (Ex.refl _) _ fun p H3 _ e3 hp => ⟨p, [.str a, .str b], rfl, .inr (st_of hp), rfl, rfl, by
    rw [if_neg (by decide), in2V]
    exact q H3 (e2.trans e3)⟩
theorem ev_nin2 {K : PySem.W.Frag} {ta : TE} {σ : L2.St} {H : Hp} {w a b : Str} (ha : Ev ta σ H (.str w)) : Ev (tOp (rIn K true) ta (tTup (tCons (tC (.str a)) (tCons (tC (.str b)) tNil)))) σ H (.bl (!decide (w = a ∨ w = b))) := fun H1 e Q q =>
  ha H1 e _ fun H2 e2 => (eu_tup (ea_cons ev_c (ea_cons ev_c ea_nil)) (show 2 ≤ 100000 by decide) : EvU _ σ H2 [.str a, .str b]) H2 (Ex.refl _) _ fun p H3 _ e3 hp => ⟨p, [.str a, .str b], rfl, .inr (st_of hp), rfl, rfl, by
    rw [if_pos rfl, in2V]
    exact q H3 (e2.trans e3)⟩
theorem keep_then {T T' : Addr → Prop} {H H2 H4 : Hp} (k : Keep T H H2) (g : Grow T T' H) (k2 : Keep T' H2 H4) : Keep T H H4 := fun b o n h => k2 b o (fun z => (g b z).elim n fun y => by rw [h] at y; cases y) (k b o n h)
theorem grow_then {T T' T2 : Addr → Prop} {H H2 : Hp} (k : Keep T H H2) (g : Grow T T' H) (g2 : Grow T' T2 H2) : Grow T T2 H := fun b h => (g2 b h).elim (g b) fun z => by
  by_cases hb : T b
  · exact .inl hb
  · refine .inr ?_
    cases e : H b with
    | none => rfl
    | some o =>
      rw [k b o hb e] at z
      cases z
/-- what a method of the player answers; m: what more it may let by -/
def spPl (cP : Addr) (A : GA) (cs : Nat → Addr) (m : List Str → Nat) (R : PSt → List Str → Ans × PSt) (Pre : List Str → Prop) : Sp := fun vs H Q E => ∃ s p T n l ws, vs = [.ref p, .ref l] ∧ PlS cP A s p T n H ∧ n ≤ 63 ∧ H l = some (.lst (ws.map V.str)) ∧ ¬ T l ∧ (∀ w ∈ ws, TL.tl w ≠ [] ∧ w.length ≤ 600) ∧ ws ≠ [] ∧ Pre ws ∧
  (∀ a s', R s ws = (.ok a, s') → ∀ H2 T', PlS cP A s' p T' (n + m ws) H2 → Keep T H H2 → Grow T T' H → Q (.str a) H2) ∧
  (∀ i s', R s ws = (.no i, s') → ∀ H2 T', PlS cP A s' p T' (n + m ws) H2 → Keep T H H2 → Grow T T' H → E (.ref (cs i)) none H2)
theorem four {ws : List Str} (h : (ws.length : Int) = 4) : ∃ a b c d, ws = [a, b, c, d] := by
  match ws, h with
  | [a, b, c, d], _ => exact ⟨a, b, c, d, rfl⟩
  | [], h => simp at h
  | [_], h => simp at h
  | [_, _], h => simp at h
  | [_, _, _], h => simp at h
  | _ :: _ :: _ :: _ :: _ :: r, h =>
    simp only [List.length_cons] at h
    omega
theorem one_ {ws : List Str} (h : (ws.length : Int) = 1) : ∃ a, ws = [a] := by
  match ws, h with
  | [a], _ => exact ⟨a, rfl⟩
  | [], h => simp at h
  | _ :: _ :: r, h =>
    simp only [List.length_cons] at h
    omega
theorem askR_len {s : PSt} {ws : List Str} (h : (ws.length : Int) ≠ 4) : askR s ws = (.no 5, s) := by
  unfold askR
  split
  · exact absurd rfl h
  · rfl
theorem tellR_len {s : PSt} {ws : List Str} (h : (ws.length : Int) ≠ 1) : tellR s ws = (.no 5, s) := by
  unfold tellR
  split
  · exact absurd rfl h
  · rfl
theorem boundR_len {s : PSt} {ws : List Str} (h : (ws.length : Int) ≠ 4) : boundR s ws = (.no 5, s) := by
  unfold boundR
  split
  · rfl
  · split
    · exact absurd rfl h
    · rfl
theorem boundR_some {s : PSt} {ws : List Str} {g : GSt} (h : s.gate = some g) : boundR s ws = (.no 5, s) := by
  unfold boundR
  exact if_pos (by rw [h]; rfl)
theorem insS_perm (x : Str) : ∀ l : List Str, (insS x l).Perm (x :: l)
  | [] => .refl _
  | y :: r => by
    unfold insS
    split
    · exact (List.Perm.cons y (insS_perm x r)).trans (List.Perm.swap x y r)
    · exact .refl _
theorem isort_perm : ∀ l : List Str, (isort l).Perm l
  | [] => .refl _
  | x :: r => (insS_perm x (isort r)).trans (List.Perm.cons x (isort_perm r))
theorem insS_pw (x : Str) : ∀ {l : List Str}, l.Pairwise (fun a b => a.cps.toList ≤ b.cps.toList) → (insS x l).Pairwise fun a b => a.cps.toList ≤ b.cps.toList
  | [], _ => List.pairwise_singleton _ _
  | y :: r, h => by
    obtain ⟨h1, h2⟩ := List.pairwise_cons.mp h
    unfold insS
    split
    · rename_i hlt
      have yx : y.cps.toList ≤ x.cps.toList := by
        have z : y.cps.toList < x.cps.toList := by
          rw [ltCps_eq, decide_eq_true_eq] at hlt
          exact hlt
        exact List.le_of_lt z
      refine List.pairwise_cons.mpr ⟨fun z hz => ?_, insS_pw x h2⟩
      rcases List.mem_cons.mp ((insS_perm x r).mem_iff.mp hz) with e | e
      · rw [e]
        exact yx
      · exact h1 z e
    · rename_i hlt
      have xy : x.cps.toList ≤ y.cps.toList := (le_cps x y).mp (by simpa using hlt)
      refine List.pairwise_cons.mpr ⟨fun z hz => ?_, h⟩
      rcases List.mem_cons.mp hz with e | e
      · rw [e]
        exact xy
      · exact List.le_trans xy (h1 z e)
theorem isort_pw : ∀ l : List Str, (isort l).Pairwise fun a b => a.cps.toList ≤ b.cps.toList
  | [] => .nil
  | x :: r => insS_pw x (isort_pw r)
theorem isort_one {l ys : List Str} (p : ys.Perm l) (h : sortedS ys = true) : ys = isort l :=
  List.Perm.eq_of_pairwise (fun a b _ _ x y => cps_inj (List.le_antisymm x y)) (sorted_pw h) (isort_pw l) (p.trans (isort_perm l).symm)
theorem sum_le {α : Type} (f : α → Nat) (B : Nat) : ∀ l : List α, (∀ x ∈ l, f x ≤ B) → (l.map f).sum ≤ l.length * B
  | [], _ => Nat.zero_le _
  | x :: r, h => by
    rw [List.map_cons, List.sum_cons, List.length_cons, Nat.add_mul, Nat.one_mul]
    have := h x List.mem_cons_self
    have := sum_le f B r fun y hy => h y (List.mem_cons_of_mem _ hy)
    omega
theorem keptB_le (b : Bd) (vs : VS) : keptB b vs ≤ vs.length := by
  cases b with
  | jar s f => exact Nat.zero_le _
  | win m s => exact List.length_filter_le _ _
theorem keptN_le {st : GSt} {k : Nat} (W : GWf st k) (hk : k ≤ 100) : st.keptN ≤ 100000 := by
  unfold GSt.keptN
  have h1 := sum_le (fun q : Bd × VS => keptB q.1 q.2) 100 st.bC fun q hq => by
    obtain ⟨b, hb, rfl⟩ := List.mem_map.mp hq
    exact Nat.le_trans (keptB_le b st.all) (Nat.le_trans W.nA hk)
  have l1 : st.bC.length ≤ 4 := by
    unfold GSt.bC
    rw [List.length_map]
    exact W.lC
  have h2 := sum_le (fun p : Str × VS => (st.own.map fun b => keptB b p.2).sum) 400 st.ppl fun p hp => by
    have z := sum_le (fun b => keptB b p.2) 100 st.own fun b hb => Nat.le_trans (keptB_le b p.2) (Nat.le_trans (W.vP p hp).2.2 hk)
    have := W.lO
    have : st.own.length * 100 ≤ 4 * 100 := Nat.mul_le_mul_right _ this
    show (st.own.map fun b => keptB b p.2).sum ≤ 400
    omega
  have l2 : st.ppl.length * 400 ≤ 100 * 400 := Nat.mul_le_mul_right _ (Nat.le_trans W.nP hk)
  have l3 : st.bC.length * 100 ≤ 4 * 100 := Nat.mul_le_mul_right _ l1
  omega
theorem putP_names {p : List (Str × VS)} {n : Str} {t c : Int} {r : Str × VS} (h : r ∈ putP p n t c) : r.1 = n ∨ ∃ q ∈ p, q.1 = r.1 := by
  unfold putP at h
  cases e : findP p n with
  | some x =>
    rw [e] at h
    obtain ⟨q, hq, rfl⟩ := List.mem_map.mp h
    refine .inr ⟨q, hq, ?_⟩
    show q.1 = (if q.1 = n then (q.1, q.2 ++ [(t, c)]) else q).1
    split <;> rfl
  | none =>
    rw [e] at h
    rcases List.mem_append.mp h with z | z
    · exact .inr ⟨r, z, rfl⟩
    · rw [List.mem_singleton.mp z]
      exact .inl rfl
section
variable {cP : Addr} {A : GA} {s : PSt} {p : Addr} {T : Addr → Prop} {n m : Nat} {H H2 : Hp}
theorem PlS.same (h : PlS cP A s p T n H) (e : Ex H H2) (m : Nat) : PlS cP A s p T (n + m) H2 := (h.mono e).up (Nat.le_add_right _ _)
end
section
variable {P : Program} {w : World} {K : PySem.W.Frag} {mg : Str → Option Value} {base : Heap} {C cP cG : Addr} {cs : Nat → Addr} {A : GA}
theorem wordAt {K : PySem.W.Frag} {σ : L2.St} {H : Hp} {l : Addr} {ws : List Str} {i : Nat} {w : Str} (h1 : σ[1]? = some (some (.ref l))) (hl : H l = some (.lst (ws.map V.str))) (hi : ws[i]? = some w) : Ev (tOp (rIxL K) (tVar 1) (tC (.int (i : Int)))) σ H (.str w) :=
  ev_ixL (i := (i : Int)) (ev_var h1) ev_c (sq_of hl) (atI_nat (by rw [List.getElem?_map, hi]; rfl))
theorem met_tell {f : Addr} {fd : FuncData} (T : Blt mg) (k : ClPl K cP) (RW : Rs K mg "BadRow" (cs 5)) (c_check_length : CalX P w K mg base 1 "_check_length" (spLen (cs 5))) (t_Player__made_gate : C8.Met P w K mg base 7 cP "_made_gate" (spMade cP A) []) (t_Gate_names : C8.Met P w K mg base 1 A.gt "names" (spW (RNames A)) []) (t_Gate_kept : C8.Met P w K mg base 2 A.gt "kept" (spF (RKeptG A)) []) (me : Meth K cP "_tell" f) (F : C8.Fun K "_tell" "Player._tell" s_Player__tell f fd) (b : Binds K fd ["self", "words"] []) : MetX P w K mg base 8 cP "_tell" (spPl cP A cs (fun _ => 1) tellR fun ws => ∃ r, ws = ("names" : Str) :: r ∨ ws = ("kept" : Str) :: r) := by
  obtain ⟨cl, n1, n2⟩ := k
  refine metX cl me F b sc_Player__tell (fun vs H Q E h => ?_) (fun cdv A' outer s0 H vs Q E hr h => ?_)
  · obtain ⟨s, p, To, n, l, ws, rfl, _⟩ := h
    rfl
  · obtain ⟨s, p, To, n, l, ws, rfl, hS, hn, hl, nT, hw, hne, ⟨r0, hk⟩, q1, q2⟩ := h
    refine ⟨_, (pss_cons (ps_expr (pe_cX c_check_length own_takes hr (by decide) rfl (pa_cons (pv 1) (pa_cons pe_int pa_nil))))
  (pss_cons (ps_set (i := 2) sc_Player__tell.nd rfl (Or.inl rfl) (C8.pe_mt0 t_Player__made_gate hr (by decide) (pv 0)))
  (pss_cons (ps_if (pt_cmpR op_eq (pe_ix ix_list (pv 1) pe_int (fun _ _ => rfl)) pe_str (nomark _))
    (pss_one (ps_ret (pe_callTy call_str_int (by rfl) T.b_str boot_str (pa_cons (C8.pe_mt0 t_Gate_kept hr (by decide) (pv 2)) pa_nil))))
    pss_nil)
  (pss_cons (ps_set (i := 3) sc_Player__tell.nd rfl (Or.inl rfl) (C8.pe_mt0 t_Gate_names hr (by decide) (pv 2)))
  (pss_one (ps_ret (pe_ifExp (pt_cmpR op_gt (pe_callB call_len_seq (by rfl) T.b_len boot_len (pa_cons (pv 3) pa_nil)) pe_int (nomark _)) (pe_join pe_str (pv 3)) pe_str))))))), ?_⟩
    refine q_dropM (tcall_go (vs := [.ref l, .int 1]) (ea_cons (ev_var rfl) (ea_cons ev_c ea_nil)) fun H1 e1 => ⟨l, ws, 1, rfl, e1 _ _ hl, fun w hh => (hw w hh).2, hne, by decide, by decide, fun hlen H2 e2 => ?_, fun hlen H2 e2 => ?_⟩)
    · obtain ⟨w0, rfl⟩ := one_ hlen
      have e12 := e1.trans e2
      obtain ⟨dx, d, gv, hob⟩ := hS.ob
      refine q_asgM (tmeth_go (vs := []) (ev_var rfl) (e12 _ _ hob) rfl ea_nil fun H3 e3 => ⟨s, p, To, n, rfl, hS.mono (e12.trans e3), fun H4 c h4 keep grow => ?_⟩)
      have e13 := e12.trans e3
      have keep0 := Keep.after e13 keep
      have grow0 := grow.back e13
      have hl4 := keep0 _ _ nT hl
      obtain ⟨H0, R, _⟩ := h4.g
      obtain ⟨dg, hg⟩ := R.ob
      have stn : PlS cP A (s.wg s.made) p (T1 p c) (n + 1) H4 := .inr ⟨s.made, c, rfl, h4.up (Nat.le_add_right _ _), rfl⟩
      have tst : EvT (tTest (tOp rEq (tOp (rIxL K) (tVar 1) (tC (.int 0))) (tC (.str "kept")))) [some (.ref p), some (.ref l), some (.ref c.g), none] H4 (decide (V.str w0 = V.str "kept")) := et_test (ev_op (wordAt (i := 0) rfl hl4 rfl) ev_c (rv_eq rfl))
      by_cases h0 : w0 = "kept"
      · have er : tellR s [w0] = (.ok (intS (s.made.keptN : Nat)), s.wg s.made) := by
          show (if w0 = "kept" then _ else _) = _
          rw [if_pos h0]
        refine q_when (b := true) (et_is tst (by rw [h0]; exact decide_eq_true rfl)) (fun _ H5 e5 => ?_) fun z => by cases z
        have kN := keptN_le h4.wf (by omega)
        exact (ev_strI (ev_methF (ev_var (v := .ref c.g) rfl) (e5 _ _ hg) rfl ea_nil fun H6 e6 => ⟨H0, _, c, n, rfl, R.mono (e5.trans e6), h4.wf, by omega, rfl⟩) (log_14 (by omega) (by omega)) : Ev _ _ H5 _) H5 (Ex.refl _) _ fun H6 e6 => q1 _ _ er H6 _ (stn.mono (e5.trans e6)) (keep0.then (e5.trans e6)) grow0
      · have er : tellR s [w0] = (.ok (namesT (s.made.ppl.map (·.1))), s.wg s.made) := by
          show (if w0 = "kept" then _ else _) = _
          rw [if_neg h0]
        refine q_when (b := false) (et_is tst (decide_eq_false fun z => h0 (by injection z))) (fun z => by cases z) fun _ H5 e5 => ?_
        have nP := h4.wf.nP
        refine q_asgM ((evw_methW (ev_var (v := .ref c.g) rfl) (e5 _ _ hg) rfl ea_nil fun H6 e6 => ⟨H0, _, c, rfl, R.mono (e5.trans e6), by omega, rfl⟩ : EvW _ _ H5 _) H5 (Ex.refl _) _ fun v H6 e6 ⟨pl, ys, ev, hpl, perm, srt⟩ => ?_)
        subst ev
        have eys := isort_one perm srt
        have e56 := e5.trans e6
        have hlen : ys.length = s.made.ppl.length := by rw [perm.length_eq, List.length_map]
        have tst2 : EvT (tTest (tOp (rI0 fun i j => V.bl (decide (i > j))) (tCB (fun xs H Q => ∃ p ys, xs = [.ref p] ∧ (SqL K H p ys ∨ SqT K H p ys) ∧ Q (.int ys.length) H) (tCons (tVar 3) tNil)) (tC (.int 0)))) [some (.ref p), some (.ref l), some (.ref c.g), some (.ref pl)] H6 (decide ((ys.length : Int) > 0)) := et_test (ev_op (ev_is (ev_lenL (K := K) (ev_var rfl) (sq_of hpl)) (by rw [List.length_map])) ev_c rv_I0)
        refine ret_go ((ev_if (v := .str (namesT (s.made.ppl.map (·.1)))) tst2 (fun hb => ?_) fun hb => ?_ : Ev _ _ H6 _) H6 (Ex.refl _) _ fun H7 e7 => q1 _ _ er H7 _ (stn.mono (e56.trans e7)) (keep0.then (e56.trans e7)) grow0)
        · have hb := of_decide_eq_true hb
          have nn : s.made.ppl.map (·.1) ≠ [] := fun z => by
            have := congrArg List.length z
            rw [List.length_map] at this
            rw [hlen, this] at hb
            exact absurd hb (by decide)
          have et : namesT (s.made.ppl.map (·.1)) = Txt.join (" " : Str) ys := by
            unfold namesT
            rw [if_neg nn, eys]
          rw [et]
          have sm := sum_le (fun y : Str => y.length) 600 ys fun y hy => by
            obtain ⟨r, hr, rfl⟩ := List.mem_map.mp (perm.mem_iff.mp hy)
            exact h4.nl r hr
          have sl : ys.length * 600 ≤ 63 * 600 := Nat.mul_le_mul_right _ (by omega)
          have l1 : (" " : Str).length = 1 := by decide +kernel
          intro H7 e7 Q' q'
          refine ev_c H7 (Ex.refl _) _ fun H8 e8 => ⟨⟨_, rfl⟩, (ev_var (v := .ref pl) rfl : Ev (tVar 3) _ H8 _) H8 (Ex.refl _) _ fun H9 e9 => ⟨(" " : Str), pl, ys, rfl, rfl, .inl (sq_of ((e7.trans (e8.trans e9)) _ _ hpl)), ?_, q' H9 (e8.trans e9)⟩⟩
          rw [l1]
          have : (ys.map (·.length)).sum ≤ ys.length * 600 := sm
          omega
        · have hb := of_decide_eq_false hb
          have nn : s.made.ppl.map (·.1) = [] := by
            refine List.length_eq_zero_iff.mp ?_
            rw [List.length_map]
            omega
          have et : namesT (s.made.ppl.map (·.1)) = "-" := by
            unfold namesT
            rw [if_pos nn]
          rw [et]
          exact ev_c
    · have er : tellR s ws = (.no 5, s) := tellR_len hlen
      exact q2 5 s er H2 To (hS.same (e1.trans e2) 1) (Keep.ex (e1.trans e2)) (Grow.refl _ _)
end
/-! a visit asked for by a row -/
theorem next_wf {st : GSt} {n : Nat} {w : Str} {t c : Int} (W : GWf st n) (ht : st.last ≤ t) (ht2 : t ≤ 1000000000000) (hc : 1 ≤ c) : GWf (st.next w t c) (n + 1) := by
  unfold GSt.next
  split
  · exact W.step ht ht2 hc
  · exact W.up (Nat.le_add_right _ _)
theorem next_nl {st : GSt} {w : Str} {t c : Int} (h : ∀ r ∈ st.ppl, r.1.length ≤ 600) (hw : w.length ≤ 600) : ∀ r ∈ (st.next w t c).ppl, r.1.length ≤ 600 := by
  unfold GSt.next
  split
  · intro r hr
    rcases putP_names (show r ∈ putP st.ppl w t c from hr) with z | ⟨q, hq, z⟩
    · rw [z]
      exact hw
    · rw [← z]
      exact h q hq
  · exact h
section
variable {P : Program} {w : World} {K : PySem.W.Frag} {mg : Str → Option Value} {base : Heap} {C cP cG : Addr} {cs : Nat → Addr} {A : GA}
theorem met_ask {f : Addr} {fd : FuncData} (T : Blt mg) (k : ClPl K cP) (RW : Rs K mg "BadRow" (cs 5)) (c_check_length : CalX P w K mg base 1 "_check_length" (spLen (cs 5))) (c_number : CalX P w K mg base 1 "_number" (spNum (cs 5))) (t_Player__made_gate : C8.Met P w K mg base 7 cP "_made_gate" (spMade cP A) []) (c_shown : C8.Cal P w K mg base 1 "_shown" (spF RShown) []) (t_Gate_ask : MetX P w K mg base 6 A.gt "ask" (spGAsk K A cs)) (t_Gate_visit : MetX P w K mg base 7 A.gt "visit" (spGVisit K A cs)) (me : Meth K cP "_ask_or_visit" f) (F : C8.Fun K "_ask_or_visit" "Player._ask_or_visit" s_Player__ask_or_visit f fd) (b : Binds K fd ["self", "words"] []) : MetX P w K mg base 8 cP "_ask_or_visit" (spPl cP A cs (fun _ => 1) askR fun ws => ∃ r, ws = ("ask" : Str) :: r ∨ ws = ("visit" : Str) :: r) := by
  obtain ⟨cl, n1, n2⟩ := k
  refine metX cl me F b sc_Player__ask_or_visit (fun vs H Q E h => ?_) (fun cdv A' outer s0 H vs Q E hr h => ?_)
  · obtain ⟨s, p, To, n, l, ws, rfl, _⟩ := h
    rfl
  · obtain ⟨s, p, To, n, l, ws, rfl, hS, hn, hl, nT, hw, hne, ⟨r0, hk⟩, q1, q2⟩ := h
    have q2' : ∀ i s', i ≤ 5 → askR s ws = (.no i, s') → ∀ H2 T', PlS cP A s' p T' (n + 1) H2 → Keep To H H2 → Grow To T' H → E (.ref (cs i)) none H2 := fun i s' _ => q2 i s'
    clear q2
    refine ⟨_, (pss_cons (ps_expr (pe_cX c_check_length own_takes hr (by decide) rfl (pa_cons (pv 1) (pa_cons pe_int pa_nil))))
  (pss_cons (ps_set (i := 2) sc_Player__ask_or_visit.nd rfl (Or.inl rfl) (pe_cX c_number own_takes hr (by decide) rfl (pa_cons (pe_ix ix_list (pv 1) pe_int (fun _ _ => rfl)) pa_nil)))
  (pss_cons (ps_set (i := 3) sc_Player__ask_or_visit.nd rfl (Or.inl rfl) (pe_cX c_number own_takes hr (by decide) rfl (pa_cons (pe_ix ix_list (pv 1) pe_int (fun _ _ => rfl)) pa_nil)))
  (pss_cons (ps_set (i := 4) sc_Player__ask_or_visit.nd rfl (Or.inl rfl) (C8.pe_mt0 t_Player__made_gate hr (by decide) (pv 0)))
  (pss_cons (ps_if (pt_cmpR op_eq (pe_ix ix_list (pv 1) pe_int (fun _ _ => rfl)) pe_str (nomark _))
    (pss_one (ps_ret (C8.pe_c c_shown hr (by decide) rfl (pa_cons (pe_mX t_Gate_ask own_takes hr (by decide) (pv 4) (pa_cons (pe_ix ix_list (pv 1) pe_int (fun _ _ => rfl)) (pa_cons (pv 2) (pa_cons (pv 3) pa_nil)))) pa_nil))))
    pss_nil)
  (pss_one (ps_ret (C8.pe_c c_shown hr (by decide) rfl (pa_cons (pe_mX t_Gate_visit own_takes hr (by decide) (pv 4) (pa_cons (pe_ix ix_list (pv 1) pe_int (fun _ _ => rfl)) (pa_cons (pv 2) (pa_cons (pv 3) pa_nil)))) pa_nil))))))))), ?_⟩
    refine q_dropM (tcall_go (vs := [.ref l, .int 4]) (ea_cons (ev_var rfl) (ea_cons ev_c ea_nil)) fun H1 e1 => ⟨l, ws, 4, rfl, e1 _ _ hl, fun w hh => (hw w hh).2, hne, by decide, by decide, fun hlen H2 e2 => ?_, fun hlen H2 e2 => q2' 5 s (by decide) (askR_len hlen) H2 To (hS.same (e1.trans e2) 1) (Keep.ex (e1.trans e2)) (Grow.refl _ _)⟩)
    obtain ⟨w0, w1, w2, w3, rfl⟩ := four hlen
    have e12 := e1.trans e2
    have hw1 := hw w1 (by simp)
    have hw2 := hw w2 (by simp)
    have hw3 := hw w3 (by simp)
    have bad : ∀ {H' : Hp}, numW w2 = none ∨ numW w3 = none → Ex H H' → E (.ref (cs 5)) none H' := fun {H'} hb e => by
      refine q2' 5 s (by decide) ?_ H' To (hS.same e 1) (Keep.ex e) (Grow.refl _ _)
      show (match numW w2, numW w3 with | some t, some c => _ | _, _ => (Ans.no 5, s)) = _
      rcases hb with z | z
      · rw [z]
      · rw [z]
        cases numW w2 <;> rfl
    refine q_asgM (tcall_go (vs := [.str w2]) (ea_cons (wordAt (i := 2) rfl (e12 _ _ hl) rfl) ea_nil) fun H3 e3 => ⟨w2, rfl, hw2.1, hw2.2, fun t ht H4 e4 => ?_, fun ht H4 e4 => bad (.inl ht) (e12.trans (e3.trans e4))⟩)
    have e14 := e12.trans (e3.trans e4)
    refine q_asgM (tcall_go (vs := [.str w3]) (ea_cons (wordAt (i := 3) rfl (e14 _ _ hl) rfl) ea_nil) fun H5 e5 => ⟨w3, rfl, hw3.1, hw3.2, fun kc hc H6 e6 => ?_, fun hc H6 e6 => bad (.inr hc) (e14.trans (e5.trans e6))⟩)
    have e16 := e14.trans (e5.trans e6)
    clear bad
    have er : askR s [w0, w1, w2, w3] = (match refG s.made.last (.str w1) (.int t) (.int kc) with | some i => (.no i, s.wg s.made) | none => (.ok (s.made.text w1 t kc), if w0 = "ask" then s.wg s.made else s.wg (s.made.next w1 t kc))) := by
      show (match numW w2, numW w3 with | some t, some c => _ | _, _ => (Ans.no 5, s)) = _
      rw [ht, hc]
      try rfl
    obtain ⟨dx, d, gv, hob⟩ := hS.ob
    refine q_asgM (tmeth_go (vs := []) (ev_var rfl) (e16 _ _ hob) rfl ea_nil fun H7 e7 => ⟨s, p, To, n, rfl, hS.mono (e16.trans e7), fun H8 g h8 keep grow => ?_⟩)
    have keep0 := Keep.after (e16.trans e7) keep
    have grow0 := grow.back (e16.trans e7)
    have hl8 := keep0 _ _ nT hl
    obtain ⟨H0, R, hI⟩ := h8.g
    obtain ⟨dg, hg⟩ := R.ob
    have stn : PlS cP A (s.wg s.made) p (T1 p g) (n + 1) H8 := .inr ⟨s.made, g, rfl, h8.up (Nat.le_add_right _ _), rfl⟩
    have refLe : ∀ i, refG s.made.last (.str w1) (.int t) (.int kc) = some i → i ≤ 5 := fun i hi => by
      unfold refG at hi
      split at hi
      · injection hi with hi; omega
      · split at hi
        · injection hi with hi; omega
        · split at hi
          · injection hi with hi; omega
          · split at hi
            · injection hi with hi; omega
            · cases hi
    have tst : EvT (tTest (tOp rEq (tOp (rIxL K) (tVar 1) (tC (.int 0))) (tC (.str "ask")))) [some (.ref p), some (.ref l), some (.int t), some (.int kc), some (.ref g.g)] H8 (decide (V.str w0 = V.str "ask")) := et_test (ev_op (wordAt (i := 0) rfl hl8 rfl) ev_c (rv_eq rfl))
    by_cases h0 : w0 = "ask"
    · refine q_when (b := true) (et_is tst (by rw [h0]; exact decide_eq_true rfl)) (fun _ H9 e9 => ?_) fun z => by cases z
      refine ret_go (call1_go (tmeth_go (vs := [.str w1, .int t, .int kc]) (ev_var (v := .ref g.g) rfl) (e9 _ _ hg) rfl (ea_cons (wordAt (i := 1) rfl (e9 _ _ hl8) rfl) (ea_cons (ev_var rfl) (ea_cons (ev_var rfl) ea_nil))) fun HA eA => ⟨H0, _, g, n, .str w1, .int t, .int kc, rfl, R.mono (e9.trans eA), h8.wf, by omega, .inl ⟨w1, rfl, by omega⟩, .inl ⟨t, rfl⟩, .inl ⟨kc, rfl⟩, fun i hi HB eB => ?_, fun n' t' kc' x1 x2 x3 hr HB p' eB hp' => ?_⟩))
      · have e8B := (e9.trans eA).trans eB
        exact q2' i _ (refLe i hi) (by rw [er, hi]) HB (T1 p g) (stn.mono e8B) (keep0.then e8B) grow0
      · have e8B := (e9.trans eA).trans eB
        cases x1
        cases x2
        cases x3
        obtain ⟨_, _, _, y1, _, y2, t0, t1, tl, y3, c0, c1⟩ := refG_none hr
        cases y1
        cases y2
        cases y3
        refine ⟨.str (s.made.text w1 t kc), fun HC eC => ⟨p', _, _, rfl, eC _ _ hp', text_is h8.cb h8.wf (by omega) tl (by omega) c1, rfl⟩, fun HC eC => q1 _ _ (by rw [er, hr, if_pos h0]) HC (T1 p g) (stn.mono (e8B.trans eC)) (keep0.then (e8B.trans eC)) grow0⟩
    · refine q_when (b := false) (et_is tst (decide_eq_false fun z => h0 (by injection z))) (fun z => by cases z) fun _ H9 e9 => ?_
      refine ret_go (call1_go (tmeth_go (vs := [.str w1, .int t, .int kc]) (ev_var (v := .ref g.g) rfl) (e9 _ _ hg) rfl (ea_cons (wordAt (i := 1) rfl (e9 _ _ hl8) rfl) (ea_cons (ev_var rfl) (ea_cons (ev_var rfl) ea_nil))) fun HA eA => ⟨H0, _, g, n, .str w1, .int t, .int kc, rfl, R.mono (e9.trans eA), h8.wf, by omega, .inl ⟨w1, rfl, by omega⟩, .inl ⟨t, rfl⟩, .inl ⟨kc, rfl⟩, fun i hi HB eB => ?_, fun n' t' kc' x1 x2 x3 hr HB p' g' kp gr eg R' hp' => ?_⟩))
      · have e8B := (e9.trans eA).trans eB
        exact q2' i _ (refLe i hi) (by rw [er, hi]) HB (T1 p g) (stn.mono e8B) (keep0.then e8B) grow0
      · have e8A := e9.trans eA
        cases x1
        cases x2
        cases x3
        obtain ⟨_, _, _, y1, _, y2, t0, t1, tl, y3, c0, c1⟩ := refG_none hr
        cases y1
        cases y2
        cases y3
        obtain ⟨dx8, d8, ho8⟩ := h8.ob
        have hoA := e8A _ _ ho8
        have tp' : g'.τ p = none := by
          cases hz : g'.τ p with
          | none => rfl
          | some j =>
            rcases gr p (by rw [hz]; exact fun z => by cases z) with z | z
            · exact absurd h8.tp z
            · rw [hoA] at z
              cases z
        have st' : PlS cP A (s.wg (s.made.next w1 t kc)) p (T1 p g') (n + 1) HB := .inr ⟨_, g', rfl, ⟨⟨dx8, d8, by rw [eg]; exact kp _ _ h8.tp hoA⟩, ⟨H0, R', hI⟩, next_wf h8.wf tl t1 c0, h8.cb.next c1, tp', next_nl h8.nl hw1.2⟩, rfl⟩
        have kp2 : Keep (T1 p g) H8 HB := Keep.after e8A fun b o nb hb => kp b o (Classical.byContradiction fun z => nb (.inr z)) hb
        have gr2 : Grow (T1 p g) (T1 p g') H8 := Grow.back e8A fun b hb => hb.elim (fun z => .inl (.inl z)) fun z => (gr b z).imp (fun y => .inr y) id
        have kpF := keep_then keep0 grow0 kp2
        have grF := grow_then keep0 grow0 gr2
        refine ⟨.str (s.made.text w1 t kc), fun HC eC => ⟨p', _, _, rfl, eC _ _ hp', text_is h8.cb h8.wf (by omega) tl (by omega) c1, rfl⟩, fun HC eC => q1 _ _ (by rw [er, hr, if_neg h0]) HC (T1 p g') (st'.mono eC) (kpF.then eC) grF⟩
end
/-! a bound told by a row; the answer to a row -/
theorem put_own {a b v : V} : putK [((Sum.inr "own" : Key), a), (Sum.inr "common", b)] (Sum.inr "own") v = [((Sum.inr "own" : Key), v), (Sum.inr "common", b)] := by
  have n : ¬ (Sum.inr ("common" : Str) : Key) = Sum.inr ("own" : Str) := fun z => by injection z with z; exact absurd z (by decide +kernel)
  simp [putK, n]
theorem put_com {a b v : V} : putK [((Sum.inr "own" : Key), a), (Sum.inr "common", b)] (Sum.inr "common") v = [((Sum.inr "own" : Key), a), (Sum.inr "common", v)] := by
  have n : ¬ (Sum.inr ("own" : Str) : Key) = Sum.inr ("common" : Str) := fun z => by injection z with z; exact absurd z (by decide +kernel)
  simp [putK, n]
theorem calll_go {sp : Sp} {E : XK} {t : TE} {σ : L2.St} {H : Hp} {Q : VK} {xs : List V} (h : EvL t σ H xs) (k : ∀ p H1, H p = none → Ex H H1 → H1 p = some (.lst xs) → sp ([.ref p] ++ []) H1 Q E) : tCall sp [] E (tCons t tNil) σ H Q := h H (Ex.refl H) _ k
theorem dput_go {td ty tv : TE} {u : TS} {D : Ends} {σ : L2.St} {H : Hp} (h : tv σ H fun v H1 => td σ H1 fun x H2 => ty σ H2 fun y H3 => ∃ a H4, x = .ref a ∧ DPut H3 a y v H4 ∧ u D σ H4) : tSeq (sDPut td ty tv) u D σ H := h
theorem tifb_go {t : TT} {ta tb : TE} {σ : L2.St} {H : Hp} {Q : VK} (b : Bool) (h : EvT t σ H b) (h1 : b = true → ∀ H1, Ex H H1 → ta σ H1 Q) (h2 : b = false → ∀ H1, Ex H H1 → tb σ H1 Q) : tIf t ta tb σ H Q := h H (Ex.refl H) _ fun H1 e => by
  cases b with
  | true => exact h1 rfl H1 e
  | false => exact h2 rfl H1 e
theorem mk_go {K : PySem.W.Frag} {C cN : Addr} {mk : Int → Int → Bd} {fl : Int → Int → List (Str × V)} {E : XK} {ta tb : TE} {σ : L2.St} {H : Hp} {a b : Int} {Q : VK} (ha : Ev ta σ H (.int a)) (hb : Ev tb σ H (.int b)) (q : (mk a b).ok → ∀ x dx H2, Ex H H2 → H2 x = some (.ins C dx (fl a b)) → Q (.ref x) H2) (qx : ¬ (mk a b).ok → ∀ H2, Ex H H2 → E (.ref cN) none H2) : tMake C (spMkX K C cN mk fl) [] E (tCons ta (tCons tb tNil)) σ H Q :=
  (ea_cons ha (ea_cons hb ea_nil)) H (Ex.refl H) _ fun H1 e1 x dx nx ndx ne => by
    have eN : Ex H1 (upd (upd H1 dx (.own x)) x (.ins C dx [])) := (Ex.new ndx).trans (Ex.new (by rw [upd_ne ne.symm]; exact nx))
    refine ⟨x, dx, a, b, rfl, upd_same, fun ok H2 kp hx => ⟨rfl, q ok x dx H2 (fun y o hy => kp y o (fun z => ?_) (eN _ _ (e1 _ _ hy))) hx⟩, fun nok H2 e2 => qx nok H2 ((e1.trans eN).trans e2)⟩
    have := e1 _ _ hy
    rw [z, nx] at this
    cases this
theorem kind_go {K : PySem.W.Frag} {cJ cW cN : Addr} {E : XK} {tk ta tb : TE} {σ : L2.St} {H : Hp} {w1 : Str} {a b : Int} {Q : VK} (hk : Ev tk σ H (.str w1)) (ha : ∀ H1, Ev ta σ H1 (.int a)) (hb : ∀ H1, Ev tb σ H1 (.int b)) (q : (bdOf w1 a b).ok → ∀ x H2, Ex H H2 → BdAt cJ cW (bdOf w1 a b) x H2 → Q (.ref x) H2) (qx : ¬ (bdOf w1 a b).ok → ∀ H2, Ex H H2 → E (.ref cN) none H2) :
    tIf (tTest (tOp rEq tk (tC (.str "jar")))) (tMake cJ (spMkX K cJ cN .jar fJar) [] E (tCons ta (tCons tb tNil))) (tMake cW (spMkX K cW cN .win fWin) [] E (tCons ta (tCons tb tNil))) σ H Q := by
  unfold bdOf at q qx
  by_cases h : w1 = "jar"
  · rw [if_pos h] at q qx
    refine tifb_go true (et_is (et_test (ev_op hk ev_c (rv_eq rfl))) (by rw [h]; exact decide_eq_true rfl)) (fun _ H1 e1 => mk_go (ha H1) (hb H1) (fun ok x dx H2 e2 hx => q ok x H2 (e1.trans e2) ⟨dx, hx⟩) fun nok H2 e2 => qx nok H2 (e1.trans e2)) fun z => by cases z
  · rw [if_neg h] at q qx
    refine tifb_go false (et_is (et_test (ev_op hk ev_c (rv_eq rfl))) (decide_eq_false fun z => h (by injection z))) (fun z => by cases z) fun _ H1 e1 => mk_go (ha H1) (hb H1) (fun ok x dx H2 e2 hx => q ok x H2 (e1.trans e2) ⟨dx, hx⟩) fun nok H2 e2 => qx nok H2 (e1.trans e2)
theorem putb_go {K : PySem.W.Frag} {cP cJ cW cN : Addr} {E : XK} {D : Ends} {σ : L2.St} {H : Hp} {p l d dx x lx : Addr} {ws : List Str} {w0 : Str} {kvs : List (Key × V)} {yx : List Addr} {bx : List Bd} {bd : Bd} (cl : Cls K cP) (n1 : NoAttr K cP "_bounds") (s0 : σ[0]? = some (some (.ref p))) (s1 : σ[1]? = some (some (.ref l))) (s4 : σ[4]? = some (some (.ref x))) (hob : H p = some (.ins cP dx (fPl d .non))) (hd : H d = some (.dK kvs)) (hk2 : kvs.length ≤ 10) (hv : valV kvs (Sum.inr w0) = some (.ref lx)) (hlx : H lx = some (.lst (yx.map V.ref))) (hbx : Paired (fun bd y => BdAt cJ cW bd y H) bx yx) (lb4 : bx.length ≤ 4) (hx : BdAt cJ cW bd x H) (hl : H l = some (.lst (ws.map V.str))) (hw : ws[0]? = some w0)
    (qok : bx.length < 4 → ∀ l' H2 H3, H l' = none → Ex H H2 → H2 l' = some (.lst ((yx ++ [x]).map V.ref)) → Ex (upd H2 d (.dK (putK kvs (Sum.inr w0) (.ref l')))) H3 → D.rt (.str "ok") H3) (qfull : ¬ bx.length < 4 → ∀ H2, Ex H H2 → E (.ref cN) none H2) :
    tSeq (sDPut (tFld K (tVar 0) "_bounds") (tOp (rIxL K) (tVar 1) (tC (.int 0))) (tCall (spCopied K cJ cW cN) [] E (tCons (tOp rCat (tDGet (tFld K (tVar 0) "_bounds") (tOp (rIxL K) (tVar 1) (tC (.int 0)))) (tLst (tCons (tVar 4) tNil))) tNil))) (tRet (tC (.str "ok"))) D σ H := by
  have len := Paired.length hbx
  have get : Ev (tDGet (tFld K (tVar 0) "_bounds") (tOp (rIxL K) (tVar 1) (tC (.int 0)))) σ H (.ref lx) := ev_dget (k := Sum.inr w0) (ev_fld (K := K) (ev_var s0) hob cl n1 rfl) (wordAt (i := 0) s1 hl hw) hd hv
  refine dput_go (calll_go (el_catN get (el_lst (vs := [.ref x]) (ea_cons (ev_var s4) ea_nil) (show 1 ≤ 100000 by decide)) hlx (by rw [List.length_map]; show _ + 1 ≤ _; omega)) fun q' H1 nq e1 hq => ?_)
  have exs : yx.map V.ref ++ [V.ref x] = (yx ++ [x]).map V.ref := by rw [List.map_append]; rfl
  rw [exs] at hq
  refine ⟨q', _, rfl, .inl (sq_of hq), by rw [List.length_map, List.length_append]; show _ + 1 ≤ _; omega, ?_⟩
  by_cases h4 : bx.length < 4
  · refine .inl ⟨bx ++ [bd], ⟨yx ++ [x], rfl, ?_, by rw [List.length_append]; show _ + 1 ≤ 4; omega⟩, fun l' H2 nl e2 hl' => ?_⟩
    · have app : ∀ {xs : List Bd} {ys : List Addr}, Paired (fun bd y => BdAt cJ cW bd y H1) xs ys → Paired (fun bd y => BdAt cJ cW bd y H1) (xs ++ [bd]) (ys ++ [x]) := fun {xs ys} h => by
        induction h with
        | nil => exact .cons (hx.mono e1) .nil
        | cons h _ ih => exact .cons h ih
      exact app (paired_imp hbx fun _ _ z => z.mono e1)
    · have e12 := e1.trans e2
      refine (ev_fld (K := K) (f := "_bounds") (v := .ref d) (ev_var s0) (e12 _ _ hob) cl n1 rfl : Ev _ σ H2 _) H2 (Ex.refl _) _ fun H3 e3 => ?_
      refine (wordAt (K := K) (i := 0) s1 ((e12.trans e3) _ _ hl) hw : Ev _ σ H3 _) H3 (Ex.refl _) _ fun H4 e4 => ?_
      have e24 := e3.trans e4
      refine ⟨d, _, rfl, .inl ⟨kvs, Sum.inr w0, e24 _ _ (e12 _ _ hd), rfl, sz_lt (by omega), rfl⟩, ?_⟩
      exact qok h4 l' H4 _ (fresh_back e1 nl) (e12.trans e24) (e24 _ _ hl') (Ex.refl _)
  · refine .inr ⟨.inl (by rw [List.length_map, List.length_append]; show 4 < _ + 1; omega), fun H2 e2 => qfull h4 H2 (e1.trans e2)⟩
theorem bdAt_updD {cJ cW y l : Addr} {bd : Bd} {H : Hp} {o : HO} {kvs : List (Key × V)} (h : BdAt cJ cW bd y H) (hl : H l = some (.dK kvs)) : BdAt cJ cW bd y (upd H l o) := by
  cases bd with
  | jar s f =>
    obtain ⟨dy, hy⟩ := h
    exact ⟨dy, by rw [upd_ne (ne_of hy hl (by intro h; cases h))]; exact hy⟩
  | win s f =>
    obtain ⟨dy, hy⟩ := h
    exact ⟨dy, by rw [upd_ne (ne_of hy hl (by intro h; cases h))]; exact hy⟩
def cntW : List Str → Nat
  | [] => 1
  | w0 :: _ => if w0 = "own" ∨ w0 = "common" then 0 else 1
section
variable {P : Program} {w : World} {K : PySem.W.Frag} {mg : Str → Option Value} {base : Heap} {C cP cG : Addr} {cs : Nat → Addr} {A : GA}
theorem met_add {f : Addr} {fd : FuncData} (T : Blt mg) (k : ClPl K cP) (RW : Rs K mg "BadRow" (cs 5)) (c_check_length : CalX P w K mg base 1 "_check_length" (spLen (cs 5))) (c_number : CalX P w K mg base 1 "_number" (spNum (cs 5))) (m_JarX : MakX P w K mg base 2 "Jar" A.J (spMkX K A.J (cs 0) .jar fJar) ["self", "size", "flow"]) (m_WindowX : MakX P w K mg base 2 "Window" A.W (spMkX K A.W (cs 0) .win fWin) ["self", "most", "span"]) (c_copied_bounds : CalX P w K mg base 2 "copied_bounds" (spCopied K A.J A.W (cs 0))) (me : Meth K cP "_add_bound" f) (F : C8.Fun K "_add_bound" "Player._add_bound" s_Player__add_bound f fd) (b : Binds K fd ["self", "words"] []) : MetX P w K mg base 4 cP "_add_bound" (spPl cP A cs (fun _ => 0) boundR fun ws => ∃ r, ws = ("own" : Str) :: r ∨ ws = ("common" : Str) :: r) := by
  obtain ⟨cl, n1, n2⟩ := k
  refine metX cl me F b sc_Player__add_bound (fun vs H Q E h => ?_) (fun cdv A' outer s0 H vs Q E hr h => ?_)
  · obtain ⟨s, p, To, n, l, ws, rfl, _⟩ := h
    rfl
  · obtain ⟨s, p, To, n, l, ws, rfl, hS, hn, hl, nT, hw, hne, ⟨r0, hk⟩, q1, q2⟩ := h
    refine ⟨_, (pss_cons (ps_if (pt_cmp (pc_notN (pe_fld (pv 0) rfl)))
    (pss_one (ps_raise rfl (takes_of rfl rfl rfl rfl) (SkE.pmk_own1 PySem.F.excBase_ValueError RW.xP RW.gP RW.kP (raises_own RW.bP RW.tP) rfl pe_str)))
    pss_nil)
  (pss_cons (ps_expr (pe_cX c_check_length own_takes hr (by decide) rfl (pa_cons (pv 1) (pa_cons pe_int pa_nil))))
  (pss_cons (ps_if (pt_cmpR op_notIn_seq (pe_ix ix_list (pv 1) pe_int (fun _ _ => rfl)) (pe_tup (pa_cons pe_str (pa_cons pe_str pa_nil))) (by rfl))
    (pss_one (ps_raise rfl (takes_of rfl rfl rfl rfl) (SkE.pmk_own1 PySem.F.excBase_ValueError RW.xP RW.gP RW.kP (raises_own RW.bP RW.tP) rfl pe_str)))
    pss_nil)
  (pss_cons (ps_set (i := 2) sc_Player__add_bound.nd rfl (Or.inl rfl) (pe_cX c_number own_takes hr (by decide) rfl (pa_cons (pe_ix ix_list (pv 1) pe_int (fun _ _ => rfl)) pa_nil)))
  (pss_cons (ps_set (i := 3) sc_Player__add_bound.nd rfl (Or.inl rfl) (pe_cX c_number own_takes hr (by decide) rfl (pa_cons (pe_ix ix_list (pv 1) pe_int (fun _ _ => rfl)) pa_nil)))
  (pss_cons (ps_set (i := 4) sc_Player__add_bound.nd rfl (Or.inl rfl) (pe_ifExp (pt_cmpR op_eq (pe_ix ix_list (pv 1) pe_int (fun _ _ => rfl)) pe_str (nomark _)) (pe_mkX9 m_JarX own_takes hr (by decide) rfl (pa_cons (pv 2) (pa_cons (pv 3) pa_nil))) (pe_mkX9 m_WindowX own_takes hr (by decide) rfl (pa_cons (pv 2) (pa_cons (pv 3) pa_nil)))))
  (pss_cons (ps_dput (hu_of hr) (pe_fld (pv 0) rfl) (pe_ix ix_list (pv 1) pe_int (fun _ _ => rfl)) (pe_cX c_copied_bounds own_takes hr (by decide) rfl (pa_cons (pe_op op_cat (pe_dget (hu_of hr) (pe_fld (pv 0) rfl) (pe_ix ix_list (pv 1) pe_int (fun _ _ => rfl)) (fun _ _ => rfl)) (pe_lst (pa_cons (pv 4) pa_nil))) pa_nil)) rfl)
  (pss_one (ps_ret pe_str))))))))), ?_⟩
    have q2s : ∀ i, boundR s ws = (.no i, s) → ∀ H2, Ex H H2 → E (.ref (cs i)) none H2 := fun i er H2 e => q2 i s er H2 To (hS.same e 0) (Keep.ex e) (Grow.refl _ _)
    rcases id hS with ⟨hg, d, lo, lc, h, rfl⟩ | ⟨st, c, hg, h, rfl⟩
    · obtain ⟨dx, hob⟩ := h.ob
      obtain ⟨yo, yc, hd, hlo, hbo, hlc, hbc⟩ := h.bd
      refine q_when (b := false) (et_B (ev_notN (x := .non) (ev_fld (K := K) (ev_var (v := .ref p) rfl) hob cl n2 rfl))) (fun z => by cases z) fun _ H0 e0 => ?_
      refine q_dropM (tcall_go (vs := [.ref l, .int 4]) (ea_cons (ev_var rfl) (ea_cons ev_c ea_nil)) fun H1 e1 => ⟨l, ws, 4, rfl, (e0.trans e1) _ _ hl, fun w hh => (hw w hh).2, hne, by decide, by decide, fun hlen H2 e2 => ?_, fun hlen H2 e2 => q2s 5 (boundR_len hlen) H2 ((e0.trans e1).trans e2)⟩)
      obtain ⟨w0, w1, w2, w3, rfl⟩ := four hlen
      have e12 := (e0.trans e1).trans e2
      have hw2 := hw w2 (by simp)
      have hw3 := hw w3 (by simp)
      have er : boundR s [w0, w1, w2, w3] = (if w1 = "jar" ∨ w1 = "window" then match numW w2, numW w3 with
          | some a, some b => if (bdOf w1 a b).okB = true then
              if w0 = "own" then (if s.own.length < 4 then (.ok "ok", ⟨s.own ++ [bdOf w1 a b], s.com, none⟩) else (.no 0, s))
              else (if s.com.length < 4 then (.ok "ok", ⟨s.own, s.com ++ [bdOf w1 a b], none⟩) else (.no 0, s))
            else (.no 0, s)
          | _, _ => (.no 5, s)
        else (.no 5, s)) := by
        show (if s.gate.isSome = true then _ else _) = _
        rw [hg]
        rfl
      have tst : EvT (tTest (tOp (rIn K true) (tOp (rIxL K) (tVar 1) (tC (.int 1))) (tTup (tCons (tC (.str "jar")) (tCons (tC (.str "window")) tNil))))) [some (.ref p), some (.ref l), none, none, none] H2 (!decide (w1 = "jar" ∨ w1 = "window")) := et_test (ev_nin2 (wordAt (i := 1) rfl (e12 _ _ hl) rfl))
      by_cases hkd : w1 = "jar" ∨ w1 = "window"
      · rw [if_pos hkd] at er
        refine q_when (b := false) (et_is tst (by rw [decide_eq_true hkd]; rfl)) (fun z => by cases z) fun _ H2' e2' => ?_
        have e12' := e12.trans e2'
        have bad : ∀ {H' : Hp}, numW w2 = none ∨ numW w3 = none → Ex H H' → E (.ref (cs 5)) none H' := fun {H'} hb e => by
          refine q2s 5 ?_ H' e
          rw [er]
          rcases hb with z | z
          · rw [z]
          · rw [z]
            cases numW w2 <;> rfl
        refine q_asgM (tcall_go (vs := [.str w2]) (ea_cons (wordAt (i := 2) rfl (e12' _ _ hl) rfl) ea_nil) fun H3 e3 => ⟨w2, rfl, hw2.1, hw2.2, fun a ha H4 e4 => ?_, fun ht H4 e4 => bad (.inl ht) (e12'.trans (e3.trans e4))⟩)
        have e14 := e12'.trans (e3.trans e4)
        refine q_asgM (tcall_go (vs := [.str w3]) (ea_cons (wordAt (i := 3) rfl (e14 _ _ hl) rfl) ea_nil) fun H5 e5 => ⟨w3, rfl, hw3.1, hw3.2, fun b hb H6 e6 => ?_, fun hc H6 e6 => bad (.inr hc) (e14.trans (e5.trans e6))⟩)
        have e16 := e14.trans (e5.trans e6)
        clear bad
        rw [ha, hb] at er
        have er : boundR s [w0, w1, w2, w3] = (if (bdOf w1 a b).okB = true then
              if w0 = "own" then (if s.own.length < 4 then (.ok "ok", ⟨s.own ++ [bdOf w1 a b], s.com, none⟩) else (.no 0, s))
              else (if s.com.length < 4 then (.ok "ok", ⟨s.own, s.com ++ [bdOf w1 a b], none⟩) else (.no 0, s))
            else (.no 0, s)) := er
        refine q_asgM (kind_go (w1 := w1) (a := a) (b := b) (wordAt (i := 1) rfl (e16 _ _ hl) rfl) (fun H1 => ev_var rfl) (fun H1 => ev_var rfl) (fun ok x H7 e7 hx => ?_) fun nok H7 e7 => q2s 0 (by rw [er, if_neg (fun z => nok ((okB_iff _).mp z))]) H7 (e16.trans e7))
        have e17 := e16.trans e7
        rw [if_pos ((okB_iff _).mpr ok)] at er
        generalize bdOf w1 a b = bd at er ok hx
        have hob7 := e17 _ _ hob
        have hd7 := e17 _ _ hd
        have hbo7 := paired_imp hbo fun _ _ z => z.mono e17
        have hbc7 := paired_imp hbc fun _ _ z => z.mono e17
        have npd : p ≠ d := ne_of hob hd (by intro h; cases h)
        -- behind the store
        have fin : ∀ {l' : Addr} {H2 H3 : Hp} {kvs' : List (Key × V)} {lo' lc' : Addr} {yo' yc' : List Addr} {own' com' : List Bd}, Ex H7 H2 → Ex (upd H2 d (.dK kvs')) H3 → HO.dK kvs' = dPl lo' lc' → H2 lo' = some (.lst (yo'.map V.ref)) → H2 lc' = some (.lst (yc'.map V.ref)) → Paired (fun bd y => BdAt A.J A.W bd y H2) own' yo' → Paired (fun bd y => BdAt A.J A.W bd y H2) com' yc' → (∀ b ∈ own', b.ok) → (∀ b ∈ com', b.ok) → own'.length ≤ 4 → com'.length ≤ 4 → PlS cP A ⟨own', com', none⟩ p (T0 p d lo' lc') (n + 0) H3 ∧ Keep (T0 p d lo lc) H H3 := fun {l' H2 H3 kvs' lo' lc' yo' yc' own' com'} e2 e3 ed h1 h2 b1 b2 o1 o2 l1 l2 => by
          have hd2 := e2 _ _ hd7
          have nl : ∀ {q : Addr} {xs : List V}, H2 q = some (.lst xs) → upd H2 d (.dK kvs') q = some (.lst xs) := fun {q xs} hq => by
            rw [upd_ne (ne_of hq hd2 (by intro h; cases h))]
            exact hq
          refine ⟨.inl ⟨rfl, d, lo', lc', ⟨⟨dx, e3 _ _ (by rw [upd_ne npd]; exact e2 _ _ hob7)⟩, ⟨yo', yc', e3 _ _ (by rw [upd_same, ed]), e3 _ _ (nl h1), paired_imp b1 fun _ _ z => (bdAt_updD z hd2).mono e3, e3 _ _ (nl h2), paired_imp b2 fun _ _ z => (bdAt_updD z hd2).mono e3⟩, o1, o2, l1, l2⟩, rfl⟩, fun b o nb hb => e3 _ _ (by rw [upd_ne (fun z => nb (.inr (.inl z)))]; exact e2 _ _ (e17 _ _ hb))⟩
        have app : ∀ {Hx : Hp} {xs : List Bd} {ys : List Addr}, Paired (fun bd y => BdAt A.J A.W bd y Hx) xs ys → BdAt A.J A.W bd x Hx → Paired (fun bd y => BdAt A.J A.W bd y Hx) (xs ++ [bd]) (ys ++ [x]) := fun {Hx xs ys} h hx => by
          induction h with
          | nil => exact .cons hx .nil
          | cons h _ ih => exact .cons h ih
        have okA : ∀ {xs : List Bd}, (∀ b ∈ xs, b.ok) → ∀ b ∈ xs ++ [bd], b.ok := fun h b hb => by
          rcases List.mem_append.mp hb with z | z
          · exact h b z
          · rw [List.mem_singleton.mp z]
            exact ok
        have w0k : w0 = "own" ∨ w0 = "common" := hk.imp (fun z => by injection z) fun z => by injection z
        rcases w0k with rfl | rfl
        · rw [if_pos rfl] at er
          refine putb_go (bx := s.own) (bd := bd) cl n1 rfl rfl rfl hob7 hd7 (show 2 ≤ 10 by decide) (show valV [((Sum.inr "own" : Key), V.ref lo), (Sum.inr "common", .ref lc)] (Sum.inr "own") = some (.ref lo) from valV_pos rfl) (e17 _ _ hlo) hbo7 h.lO hx (e17 _ _ hl) rfl (fun h4 l' H8 H9 nl' e8 hl' e9 => ?_) fun h4 H8 e8 => q2s 0 (by rw [er, if_neg h4]) H8 (e17.trans e8)
          rw [put_own] at e9
          have z := fin (l' := l') (own' := s.own ++ [bd]) (com' := s.com) e8 e9 rfl hl' (e8 _ _ (e17 _ _ hlc)) (app (paired_imp hbo7 fun _ _ z => z.mono e8) (hx.mono e8)) (paired_imp hbc7 fun _ _ z => z.mono e8) (okA h.okO) h.okC (by rw [List.length_append]; show _ + 1 ≤ 4; omega) h.lC
          exact q1 _ _ (by rw [er, if_pos h4]) H9 _ z.1 z.2 fun b hb => hb.elim (fun y => .inl (.inl y)) fun hb => hb.elim (fun y => .inl (.inr (.inl y))) fun hb => hb.elim (fun y => .inr (by rw [y]; exact fresh_back e17 nl')) fun y => .inl (.inr (.inr (.inr y)))
        · rw [if_neg (by decide +kernel)] at er
          refine putb_go (bx := s.com) (bd := bd) cl n1 rfl rfl rfl hob7 hd7 (show 2 ≤ 10 by decide) val_com (e17 _ _ hlc) hbc7 h.lC hx (e17 _ _ hl) rfl (fun h4 l' H8 H9 nl' e8 hl' e9 => ?_) fun h4 H8 e8 => q2s 0 (by rw [er, if_neg h4]) H8 (e17.trans e8)
          rw [put_com] at e9
          have z := fin (l' := l') (own' := s.own) (com' := s.com ++ [bd]) e8 e9 rfl (e8 _ _ (e17 _ _ hlo)) hl' (paired_imp hbo7 fun _ _ z => z.mono e8) (app (paired_imp hbc7 fun _ _ z => z.mono e8) (hx.mono e8)) h.okO (okA h.okC) h.lO (by rw [List.length_append]; show _ + 1 ≤ 4; omega)
          exact q1 _ _ (by rw [er, if_pos h4]) H9 _ z.1 z.2 fun b hb => hb.elim (fun y => .inl (.inl y)) fun hb => hb.elim (fun y => .inl (.inr (.inl y))) fun hb => hb.elim (fun y => .inl (.inr (.inr (.inl y)))) fun y => .inr (by rw [y]; exact fresh_back e17 nl')
      · rw [if_neg hkd] at er
        exact q_when (b := true) (et_is tst (by rw [decide_eq_false hkd]; rfl)) (fun _ H3 e3 => q2s 5 er H3 (e12.trans e3)) fun z => by cases z
    · obtain ⟨dx, d, hob⟩ := h.ob
      exact q_when (b := true) (et_B (ev_notN (x := .ref c.g) (ev_fld (K := K) (ev_var (v := .ref p) rfl) hob cl n2 rfl))) (fun _ H1 e1 => q2s 5 (boundR_some hg) H1 e1) fun z => by cases z
theorem met_answer {f : Addr} {fd : FuncData} (T : Blt mg) (k : ClPl K cP) (RW : Rs K mg "BadRow" (cs 5)) (t_Player__add_bound : MetX P w K mg base 4 cP "_add_bound" (spPl cP A cs (fun _ => 0) boundR fun ws => ∃ r, ws = ("own" : Str) :: r ∨ ws = ("common" : Str) :: r)) (t_Player__ask_or_visit : MetX P w K mg base 8 cP "_ask_or_visit" (spPl cP A cs (fun _ => 1) askR fun ws => ∃ r, ws = ("ask" : Str) :: r ∨ ws = ("visit" : Str) :: r)) (t_Player__tell : MetX P w K mg base 8 cP "_tell" (spPl cP A cs (fun _ => 1) tellR fun ws => ∃ r, ws = ("names" : Str) :: r ∨ ws = ("kept" : Str) :: r)) (me : Meth K cP "answer" f) (F : C8.Fun K "answer" "Player.answer" s_Player_answer f fd) (b : Binds K fd ["self", "words"] []) : MetX P w K mg base 9 cP "answer" (spPl cP A cs cntW stepR fun _ => True) := by
  obtain ⟨cl, n1, n2⟩ := k
  refine metX cl me F b sc_Player_answer (fun vs H Q E h => ?_) (fun cdv A' outer s0 H vs Q E hr h => ?_)
  · obtain ⟨s, p, To, n, l, ws, rfl, _⟩ := h
    rfl
  · obtain ⟨s, p, To, n, l, ws, rfl, hS, hn, hl, nT, hw, hne, _, q1, q2⟩ := h
    refine ⟨_, (pss_cons (ps_if (pt_cmpR op_in_seq (pe_ix ix_list (pv 1) pe_int (fun _ _ => rfl)) (pe_tup (pa_cons pe_str (pa_cons pe_str pa_nil))) (by rfl))
    (pss_one (ps_ret (pe_mX t_Player__add_bound own_takes hr (by decide) (pv 0) (pa_cons (pv 1) pa_nil))))
    pss_nil)
  (pss_cons (ps_if (pt_cmpR op_in_seq (pe_ix ix_list (pv 1) pe_int (fun _ _ => rfl)) (pe_tup (pa_cons pe_str (pa_cons pe_str pa_nil))) (by rfl))
    (pss_one (ps_ret (pe_mX t_Player__ask_or_visit own_takes hr (by decide) (pv 0) (pa_cons (pv 1) pa_nil))))
    pss_nil)
  (pss_cons (ps_if (pt_cmpR op_in_seq (pe_ix ix_list (pv 1) pe_int (fun _ _ => rfl)) (pe_tup (pa_cons pe_str (pa_cons pe_str pa_nil))) (by rfl))
    (pss_one (ps_ret (pe_mX t_Player__tell own_takes hr (by decide) (pv 0) (pa_cons (pv 1) pa_nil))))
    pss_nil)
  (pss_one (ps_raise rfl (takes_of rfl rfl rfl rfl) (SkE.pmk_own1 PySem.F.excBase_ValueError RW.xP RW.gP RW.kP (raises_own RW.bP RW.tP) rfl pe_str)))))), ?_⟩
    obtain ⟨dx, d, gv, hob⟩ := hS.ob
    cases ws with
    | nil => exact absurd rfl hne
    | cons w0 r =>
      have tin : ∀ {H1 : Hp} {a b : Str}, Ex H H1 → EvT (tTest (tOp (rIn K false) (tOp (rIxL K) (tVar 1) (tC (.int 0))) (tTup (tCons (tC (.str a)) (tCons (tC (.str b)) tNil))))) [some (.ref p), some (.ref l)] H1 (decide (w0 = a ∨ w0 = b)) := fun e => et_test (ev_in2 (wordAt (i := 0) rfl (e _ _ hl) rfl))
      have es : stepR s (w0 :: r) = (if w0 = "own" ∨ w0 = "common" then boundR s (w0 :: r) else if w0 = "ask" ∨ w0 = "visit" then askR s (w0 :: r) else if w0 = "names" ∨ w0 = "kept" then tellR s (w0 :: r) else (.no 5, s)) := rfl
      by_cases h1 : w0 = "own" ∨ w0 = "common"
      · rw [if_pos h1] at es
        have c0 : cntW (w0 :: r) = 0 := if_pos h1
        refine q_when (b := true) (et_is (tin (Ex.refl _)) (decide_eq_true h1)) (fun _ H1 e1 => ?_) fun z => by cases z
        refine ret_go (tmeth_go (vs := [.ref l]) (ev_var (v := .ref p) rfl) (e1 _ _ hob) rfl (ea_cons (ev_var rfl) ea_nil) fun H2 e2 => ⟨s, p, To, n, l, w0 :: r, rfl, hS.mono (e1.trans e2), hn, (e1.trans e2) _ _ hl, nT, hw, hne, ⟨r, h1.imp (fun z => by rw [z]) fun z => by rw [z]⟩, fun a s' er H3 T' st kp gr => ?_, fun i s' er H3 T' st kp gr => ?_⟩)
        · exact q1 a s' (by rw [es, er]) H3 T' (by rw [c0]; exact st) (Keep.after (e1.trans e2) kp) (gr.back (e1.trans e2))
        · exact q2 i s' (by rw [es, er]) H3 T' (by rw [c0]; exact st) (Keep.after (e1.trans e2) kp) (gr.back (e1.trans e2))
      rw [if_neg h1] at es
      have c1 : cntW (w0 :: r) = 1 := if_neg h1
      refine q_when (b := false) (et_is (tin (Ex.refl _)) (decide_eq_false h1)) (fun z => by cases z) fun _ H1 e1 => ?_
      by_cases h2 : w0 = "ask" ∨ w0 = "visit"
      · rw [if_pos h2] at es
        refine q_when (b := true) (et_is (tin e1) (decide_eq_true h2)) (fun _ H2 e2 => ?_) fun z => by cases z
        have e12 := e1.trans e2
        refine ret_go (tmeth_go (vs := [.ref l]) (ev_var (v := .ref p) rfl) (e12 _ _ hob) rfl (ea_cons (ev_var rfl) ea_nil) fun H3 e3 => ⟨s, p, To, n, l, w0 :: r, rfl, hS.mono (e12.trans e3), hn, (e12.trans e3) _ _ hl, nT, hw, hne, ⟨r, h2.imp (fun z => by rw [z]) fun z => by rw [z]⟩, fun a s' er H4 T' st kp gr => ?_, fun i s' er H4 T' st kp gr => ?_⟩)
        · exact q1 a s' (by rw [es, er]) H4 T' (by rw [c1]; exact st) (Keep.after (e12.trans e3) kp) (gr.back (e12.trans e3))
        · exact q2 i s' (by rw [es, er]) H4 T' (by rw [c1]; exact st) (Keep.after (e12.trans e3) kp) (gr.back (e12.trans e3))
      rw [if_neg h2] at es
      refine q_when (b := false) (et_is (tin e1) (decide_eq_false h2)) (fun z => by cases z) fun _ H2 e2 => ?_
      have e12 := e1.trans e2
      by_cases h3 : w0 = "names" ∨ w0 = "kept"
      · rw [if_pos h3] at es
        refine q_when (b := true) (et_is (tin e12) (decide_eq_true h3)) (fun _ H3 e3 => ?_) fun z => by cases z
        have e13 := e12.trans e3
        refine ret_go (tmeth_go (vs := [.ref l]) (ev_var (v := .ref p) rfl) (e13 _ _ hob) rfl (ea_cons (ev_var rfl) ea_nil) fun H4 e4 => ⟨s, p, To, n, l, w0 :: r, rfl, hS.mono (e13.trans e4), hn, (e13.trans e4) _ _ hl, nT, hw, hne, ⟨r, h3.imp (fun z => by rw [z]) fun z => by rw [z]⟩, fun a s' er H5 T' st kp gr => ?_, fun i s' er H5 T' st kp gr => ?_⟩)
        · exact q1 a s' (by rw [es, er]) H5 T' (by rw [c1]; exact st) (Keep.after (e13.trans e4) kp) (gr.back (e13.trans e4))
        · exact q2 i s' (by rw [es, er]) H5 T' (by rw [c1]; exact st) (Keep.after (e13.trans e4) kp) (gr.back (e13.trans e4))
      rw [if_neg h3] at es
      refine q_when (b := false) (et_is (tin e12) (decide_eq_false h3)) (fun z => by cases z) fun _ H3 e3 => ?_
      exact q2 5 s es H3 To (hS.same (e12.trans e3) _) (Keep.ex (e12.trans e3)) (Grow.refl _ _)
end
/-! a row answered or refused; a text played -/
theorem call1v_go {tm : TE} {σ : L2.St} {H : Hp} {P : List V → Hp → Prop} (h : tm σ H fun v H1 => P [v] H1) : tCons tm tNil σ H P := h
theorem appM_go {K : PySem.W.Frag} {ta : TE} {t : TA} {D : Ends} {σ : L2.St} {H : Hp} {l : Addr} {xs : List V} (ha : Ev ta σ H (.ref l)) (hl : H l = some (.lst xs)) (k : ∀ H1, Ex H H1 → t σ H1 fun vs H2 => rAppend (.ref l) vs H2 fun _ H3 => D.nx σ H3) : tDrop (tBM K "list" rAppend ta t) D σ H := ha H (Ex.refl H) _ fun H1 e1 => ⟨Or.inl ⟨rfl, xs, sq_of (e1 _ _ hl)⟩, k H1 e1⟩
theorem pe_mk0 {X : Cx} {k j : Nat} {C : Addr} {x : Str} {sp : Sp} {dvs : List V} {p pos : Pos} (c : C8.Mak X.prog X.w X.K X.mg X.base k x C sp dvs) (hr : Room j X.A) (hk : k + 1 ≤ j) (hg : Gl X x) (hdb : (x == ("__debug__" : Str)) = false := by decide) : PE X (.Call (.Name x p) [] [] pos) (tMake C sp dvs C8.E0 tNil) := by
  obtain ⟨f, fd, ps, ds, M, F, hm, b, d⟩ := c.ex
  exact pe_make0 M F (hr.mono hk) hg hm b d C8.pass0 hdb
theorem bdAt_updL {cJ cW y l : Addr} {bd : Bd} {H : Hp} {o : HO} {xs : List V} (h : BdAt cJ cW bd y H) (hl : H l = some (.lst xs)) : BdAt cJ cW bd y (upd H l o) := by
  cases bd with
  | jar s f =>
    obtain ⟨dy, hy⟩ := h
    exact ⟨dy, by rw [upd_ne (ne_of hy hl (by intro h; cases h))]; exact hy⟩
  | win s f =>
    obtain ⟨dy, hy⟩ := h
    exact ⟨dy, by rw [upd_ne (ne_of hy hl (by intro h; cases h))]; exact hy⟩
theorem swap13 {A : GA} {H0 H : Hp} {st : GSt} {c : GC} {a : Addr} {xs ys : List V} (R : GateR A H0 st c H) (ha : H a = some (.lst xs)) (hτ : c.τ a = none) (h0 : H0 a = none) : GateR A H0 st c (upd H a (.lst ys)) :=
  R.keep (F := fun b => b ≠ a) (fun b o hb h => by rw [upd_ne hb]; exact h) (fun b hb z => hb (by rw [z]; exact hτ)) (fun b hb => by rw [Classical.not_not.mp hb]; exact h0) fun b hb zs z => by
    rw [Classical.not_not.mp hb, ha] at z
    cases z
theorem PlS.updL {cP : Addr} {A : GA} {s : PSt} {p l : Addr} {T : Addr → Prop} {n : Nat} {H : Hp} {xs ys : List V} (h : PlS cP A s p T n H) (hl : H l = some (.lst xs)) (nT : ¬ T l) : PlS cP A s p T n (upd H l (.lst ys)) := by
  rcases h with ⟨hg, d, lo, lc, h, rfl⟩ | ⟨st, c, hg, h, rfl⟩
  · obtain ⟨⟨dx, h1⟩, ⟨yo, yc, a, b, cc, dd, ee⟩, h3, h4, h5, h6⟩ := h
    refine .inl ⟨hg, d, lo, lc, ⟨⟨dx, ?_⟩, ⟨yo, yc, ?_, ?_, paired_imp cc fun _ _ z => bdAt_updL z hl, ?_, paired_imp ee fun _ _ z => bdAt_updL z hl⟩, h3, h4, h5, h6⟩, rfl⟩
    · rw [upd_ne (fun z => nT (.inl z.symm))]
      exact h1
    · rw [upd_ne (fun z => nT (.inr (.inl z.symm)))]
      exact a
    · rw [upd_ne (fun z => nT (.inr (.inr (.inl z.symm))))]
      exact b
    · rw [upd_ne (fun z => nT (.inr (.inr (.inr z.symm))))]
      exact dd
  · obtain ⟨⟨dx, d, h1⟩, ⟨H0, R, hI⟩, h3, h4, h5, h6⟩ := h
    refine .inr ⟨st, c, hg, ⟨⟨dx, d, ?_⟩, ⟨H0, swap13 R hl (Classical.byContradiction fun z => nT (.inr z)) ?_, hI⟩, h3, h4, h5, h6⟩, rfl⟩
    · rw [upd_ne (fun z => nT (.inl z.symm))]
      exact h1
    · cases e : H0 l with
      | none => rfl
      | some o =>
        obtain ⟨C, dx, fs, rfl⟩ := hI l o e
        have := R.e0 _ _ e
        rw [hl] at this
        cases this
theorem bound_le {s s' : PSt} {ws : List Str} {i : Nat} (h : boundR s ws = (.no i, s')) : i ≤ 5 := by
  unfold boundR at h
  repeat' (split at h)
  all_goals first
    | (simp only [Prod.mk.injEq, Ans.no.injEq] at h; omega)
    | (simp only [Prod.mk.injEq, reduceCtorEq, false_and] at h)
theorem ref_le {l : Int} {a b c : V} {i : Nat} (h : refG l a b c = some i) : i ≤ 5 := by
  unfold refG at h
  repeat' (split at h)
  all_goals first
    | (injection h with h; omega)
    | cases h
theorem ask_le {s s' : PSt} {ws : List Str} {i : Nat} (h : askR s ws = (.no i, s')) : i ≤ 5 := by
  unfold askR at h
  split at h
  · split at h
    · split at h
      · rename_i hr
        simp only [Prod.mk.injEq, Ans.no.injEq] at h
        rw [← h.1]
        exact ref_le hr
      · simp only [Prod.mk.injEq, reduceCtorEq, false_and] at h
    · simp only [Prod.mk.injEq, Ans.no.injEq] at h
      omega
  · simp only [Prod.mk.injEq, Ans.no.injEq] at h
    omega
theorem tell_le {s s' : PSt} {ws : List Str} {i : Nat} (h : tellR s ws = (.no i, s')) : i ≤ 5 := by
  unfold tellR at h
  repeat' (split at h)
  all_goals first
    | (simp only [Prod.mk.injEq, Ans.no.injEq] at h; omega)
    | (simp only [Prod.mk.injEq, reduceCtorEq, false_and] at h)
theorem step_le {s s' : PSt} {ws : List Str} {i : Nat} (h : stepR s ws = (.no i, s')) : i ≤ 5 := by
  unfold stepR at h
  split at h
  · simp only [Prod.mk.injEq, Ans.no.injEq] at h
    omega
  · split at h
    · exact bound_le h
    · split at h
      · exact ask_le h
      · split at h
        · exact tell_le h
        · simp only [Prod.mk.injEq, Ans.no.injEq] at h
          omega
def spAoR (cP : Addr) (A : GA) : Sp := fun vs H Q _ => ∃ s p T n l ws, vs = [.ref p, .ref l] ∧ PlS cP A s p T n H ∧ n ≤ 63 ∧ H l = some (.lst (ws.map V.str)) ∧ ¬ T l ∧ (∀ w ∈ ws, TL.tl w ≠ [] ∧ w.length ≤ 600) ∧ ws ≠ [] ∧
  ∀ H2 T', PlS cP A (stepR s ws).2 p T' (n + cntW ws) H2 → Keep T H H2 → Grow T T' H → Q (.str (stepR s ws).1.txt) H2
/-- the words of a row -/
def wordsS (row : Str) : List Str := (Txt.split row (" " : Str)).filter fun w => decide (w ≠ ("" : Str))
def rowsW : List Str → List (List Str)
  | [] => []
  | r :: rs => if wordsS r = [] then rowsW rs else wordsS r :: rowsW rs
def pst0 : PSt := ⟨[], [], none⟩
def playT (rows : List Str) : List Str := runR pst0 (rowsW rows)
def cntAll (wss : List (List Str)) : Nat := (wss.map cntW).sum
def spPlay : Sp := fun vs H Q _ => ∃ text, vs = [.str text] ∧ text.length ≤ 60000 ∧ (∀ row ∈ Txt.lines text, row.length ≤ 30000 ∧ ∀ w ∈ wordsS row, w.length ≤ 600) ∧ (Txt.lines text).length ≤ 40000 ∧ cntAll (rowsW (Txt.lines text)) ≤ 63 ∧ ∀ l H2, H l = none → Ex H H2 → H2 l = some (.lst ((playT (Txt.lines text)).map V.str)) → Q (.ref l) H2
theorem given_filter : ∀ ws : List Str, (given ws.length (fun i => decide (ws.getD i "" ≠ ("" : Str))) fun i => V.str (ws.getD i "")) = (ws.filter fun w => decide (w ≠ ("" : Str))).map V.str := by
  intro ws
  unfold given
  induction ws with
  | nil => rfl
  | cons a r ih =>
    rw [List.length_cons, List.range_succ_eq_map, List.filter_cons, List.filter_cons]
    have e : (((List.range r.length).map Nat.succ).filter fun i => decide ((a :: r).getD i "" ≠ ("" : Str))) = ((List.range r.length).filter fun i => decide (r.getD i "" ≠ ("" : Str))).map Nat.succ := by
      rw [List.filter_map]
      rfl
    rw [e]
    have m : (((List.range r.length).filter fun i => decide (r.getD i "" ≠ ("" : Str))).map Nat.succ).map (fun i => V.str ((a :: r).getD i "")) = ((List.range r.length).filter fun i => decide (r.getD i "" ≠ ("" : Str))).map fun i => V.str (r.getD i "") := by
      rw [List.map_map]
      rfl
    show List.map _ (if decide (a ≠ ("" : Str)) = true then _ else _) = List.map _ (if decide (a ≠ ("" : Str)) = true then _ else _)
    by_cases h : decide (a ≠ ("" : Str)) = true
    · rw [if_pos h, if_pos h, List.map_cons, List.map_cons, m, ih]
      rfl
    · rw [if_neg h, if_neg h, m, ih]
theorem words_ne {row w : Str} (h : w ∈ wordsS row) : TL.tl w ≠ [] := fun z => by
  have y := of_decide_eq_true (List.mem_filter.mp h).2
  exact y (TL.ext_tl (by rw [z]; decide +kernel))
theorem el_lines {K : PySem.W.Frag} {te : TE} {σ : L2.St} {H : Hp} {a : Str} (h : Ev te σ H (.str a)) (hl : a.length ≤ 60000) : EvL (tBM0 K "str" (fun x xs H Q => ∃ a : Str, x = .str a ∧ xs = [] ∧ a.length + 2 ≤ sizeLine ∧ (PySem.lineCuts a).length ≤ sizeLine ∧ rNewStrs (Txt.lines a) H Q) te) σ H ((Txt.lines a).map V.str) := fun H1 e Q q =>
  h H1 e _ fun H2 e2 => ⟨rfl, a, rfl, rfl, sz_of (by omega), sz_of (by have := PyProof.Rows.lineCuts_le a; omega), fun p np => q p _ (fresh_back e2 np) (e2.trans (Ex.new np)) upd_same⟩
theorem el_split {te : TE} {σ : L2.St} {H : Hp} {a : Str} (h : Ev te σ H (.str a)) (hl : a.length ≤ 60000) : EvL (tM1 (fun x xs H Q => ∃ a b : Str, x = .str a ∧ xs = [.str b] ∧ (b.length == 0) = false ∧ a.length + 2 ≤ sizeLine ∧ rNewStrs (Txt.split a b) H Q) te (tC (.str " "))) σ H ((Txt.split a (" " : Str)).map V.str) := fun H1 e Q q =>
  h H1 e _ fun H2 e2 => ⟨⟨a, rfl⟩, a, _, rfl, rfl, by decide +kernel, sz_of (by omega), fun p np => q p _ (fresh_back e2 np) (e2.trans (Ex.new np)) upd_same⟩
section
variable {P : Program} {w : World} {K : PySem.W.Frag} {mg : Str → Option Value} {base : Heap} {C cP cG : Addr} {cs : Nat → Addr} {A : GA}
theorem cal_aor {f : Addr} {fd : FuncData} (T : Blt mg) (G : Gcl mg cG cs A.J A.W) (EE : ∀ i j, i < 6 → j < 6 → PySem.W.exmOne K (.ref (cs i)) (.ref (cs j)) = some (decide (i = j))) (t_Player_answer : MetX P w K mg base 9 cP "answer" (spPl cP A cs cntW stepR fun _ => True)) (F : C8.Def K mg "_answer_or_refusal" s_answer_or_refusal f fd) (b : Binds K fd ["player", "words"] []) : C8.Cal P w K mg base 10 "_answer_or_refusal" (spAoR cP A) [] := by
  refine C8.cal0 F b .nil sc_answer_or_refusal (fun vs H Q E h => ?_) (fun cdv A' outer s0 H vs Q E hr h => ?_)
  · obtain ⟨s, p, To, n, l, ws, rfl, _⟩ := h
    rfl
  · obtain ⟨s, p, To, n, l, ws, rfl, hS, hn, hl, nT, hw, hne, q⟩ := h
    refine ⟨_, (pss_one (ps_try_many (tb := fun W => tRet (tMethT cP "answer" (spPl cP A cs cntW stepR fun _ => True) (WE W) (tVar 0) (tCons (tVar 1) tNil))) (Wout := fun _ _ _ _ => False) rfl rfl takes0 (fun W pn xe tk _ => pss_one (ps_ret (by exact (pe_mT t_Player_answer tk hr (by decide) (pv 0) (pa_cons (pv 1) pa_nil))))) (HdsOk.cons (ts := fun _ _ _ => tRet (tC (.str "refused: BadRow"))) ⟨rfl, by decide, Or.inl G.c_BadRow⟩ (fun a oe cls d pn _ _ => pss_one (ps_ret pe_str)) (HdsOk.cons (ts := fun _ _ _ => tRet (tC (.str "refused: NoBound"))) ⟨rfl, by decide, Or.inl G.c_NoBound⟩ (fun a oe cls d pn _ _ => pss_one (ps_ret pe_str)) (HdsOk.cons (ts := fun _ _ _ => tRet (tC (.str "refused: NoName"))) ⟨rfl, by decide, Or.inl G.c_NoName⟩ (fun a oe cls d pn _ _ => pss_one (ps_ret pe_str)) (HdsOk.cons (ts := fun _ _ _ => tRet (tC (.str "refused: NoMoment"))) ⟨rfl, by decide, Or.inl G.c_NoMoment⟩ (fun a oe cls d pn _ _ => pss_one (ps_ret pe_str)) (HdsOk.cons (ts := fun _ _ _ => tRet (tC (.str "refused: Late"))) ⟨rfl, by decide, Or.inl G.c_Late⟩ (fun a oe cls d pn _ _ => pss_one (ps_ret pe_str)) (HdsOk.cons (ts := fun _ _ _ => tRet (tC (.str "refused: NoCost"))) ⟨rfl, by decide, Or.inl G.c_NoCost⟩ (fun a oe cls d pn _ _ => pss_one (ps_ret pe_str)) HdsOk.nil)))))))), ?_⟩
    obtain ⟨dx, d, gv, hob⟩ := hS.ob
    refine ⟨_, rfl, p, dx, _, rfl, hob, rfl, _, rfl, s, p, To, n, l, ws, rfl, hS, hn, hl, nT, hw, hne, trivial, fun a s' er H2 T' st kp gr => ?_, fun i s' er H2 T' st kp gr => ?_⟩
    · have z := q H2 T' (by rw [er]; exact st) kp gr
      rw [er] at z
      exact z
    · have z := q H2 T' (by rw [er]; exact st) kp gr
      rw [er] at z
      have hi := step_le er
      have no : ∀ j, j < 6 → i ≠ j → PySem.W.exmOne K (.ref (cs i)) (.ref (cs j)) = some false := fun j hj ne => by
        have y := EE i j (by omega) hj
        rwa [decide_eq_false ne] at y
      have yes : PySem.W.exmOne K (.ref (cs i)) (.ref (cs i)) = some true := by
        have y := EE i i (by omega) (by omega)
        rwa [decide_eq_true rfl] at y
      match i, hi, z, no, yes with
      | 5, _, z, no, yes => exact ⟨true, yes, fun _ _ _ => z, fun z => by cases z⟩
      | 0, _, z, no, yes => exact ⟨false, no 5 (by decide) (by decide), fun z => (by cases z), fun _ => ⟨true, yes, fun _ _ _ => z, fun z => by cases z⟩⟩
      | 1, _, z, no, yes => exact ⟨false, no 5 (by decide) (by decide), fun z => (by cases z), fun _ => ⟨false, no 0 (by decide) (by decide), fun z => (by cases z), fun _ => ⟨true, yes, fun _ _ _ => z, fun z => by cases z⟩⟩⟩
      | 2, _, z, no, yes => exact ⟨false, no 5 (by decide) (by decide), fun z => (by cases z), fun _ => ⟨false, no 0 (by decide) (by decide), fun z => (by cases z), fun _ => ⟨false, no 1 (by decide) (by decide), fun z => (by cases z), fun _ => ⟨true, yes, fun _ _ _ => z, fun z => by cases z⟩⟩⟩⟩
      | 3, _, z, no, yes => exact ⟨false, no 5 (by decide) (by decide), fun z => (by cases z), fun _ => ⟨false, no 0 (by decide) (by decide), fun z => (by cases z), fun _ => ⟨false, no 1 (by decide) (by decide), fun z => (by cases z), fun _ => ⟨false, no 2 (by decide) (by decide), fun z => (by cases z), fun _ => ⟨true, yes, fun _ _ _ => z, fun z => by cases z⟩⟩⟩⟩⟩
      | 4, _, z, no, yes => exact ⟨false, no 5 (by decide) (by decide), fun z => (by cases z), fun _ => ⟨false, no 0 (by decide) (by decide), fun z => (by cases z), fun _ => ⟨false, no 1 (by decide) (by decide), fun z => (by cases z), fun _ => ⟨false, no 2 (by decide) (by decide), fun z => (by cases z), fun _ => ⟨false, no 3 (by decide) (by decide), fun z => (by cases z), fun _ => ⟨true, yes, fun _ _ _ => z, fun z => by cases z⟩⟩⟩⟩⟩⟩
theorem cal_play {f : Addr} {fd : FuncData} (T : Blt mg) (c_answer_or_refusal : C8.Cal P w K mg base 10 "_answer_or_refusal" (spAoR cP A) []) (m_Player : C8.Mak P w K mg base 1 "Player" cP (spPInit cP A) []) (F : C8.Def K mg "play" s_play f fd) (b : Binds K fd ["text"] []) : C8.Cal P w K mg base 11 "play" spPlay [] := by
  refine C8.cal0 F b .nil sc_play (fun vs H Q E h => ?_) (fun cdv A' outer s0 H vs Q E hr h => ?_)
  · obtain ⟨text, rfl, _⟩ := h
    rfl
  · obtain ⟨text, rfl, tl0, hrow, hmany, hcnt, q⟩ := h
    refine ⟨_, (pss_cons (ps_set (i := 1) sc_play.nd rfl (Or.inl rfl) (pe_mk0 m_Player hr (by decide) rfl))
  (pss_cons (ps_set (i := 2) sc_play.nd rfl (Or.inl rfl) (pe_lst pa_nil))
  (pss_cons (ps_for PassesOwn.never rfl (pi_list (pe_bm0 PySem.F.plainAttrs_str PySem.F.slot_str_splitlines PySem.F.type_str_splitlines mt_lines (pv 0))) (pg_name (i := 3) sc_play.nd rfl (Or.inl rfl))
    (pss_cons (ps_setLc (i := 4) (own := [("word", 5)]) (g := gName 5) rfl sc_play.nd rfl rfl (sw_true rfl rfl rfl (by decide +kernel)) (pi_list (pe_split (pv 3) pe_str)) (blkOk_by (own := [("word", 5)]) (N := ["text", "player", "answers", "row", "words", "word"]) (sc := C8.fnScope s_play) (by decide +kernel)) (fun _ _ _ _ _ => pg_name (i := 5) sc_play.nd rfl (Or.inl rfl)) (fun _ _ _ _ _ => pts_one (pt_cmpR op_ne (pv 5) pe_str (nomark _))) (fun _ _ _ _ _ => (pv 5)))
    (pss_one (ps_if (pt_cmpR op_gt (pe_callB call_len_seq (by rfl) T.b_len boot_len (pa_cons (pv 4) pa_nil)) pe_int (nomark _))
      (pss_one (ps_expr (pe_bm PySem.F.plainAttrs_list PySem.F.slot_list_append PySem.F.type_list_append mt_append (pv 2) (pa_cons (C8.pe_c c_answer_or_refusal hr (by decide) rfl (pa_cons (pv 1) (pa_cons (pv 4) pa_nil))) pa_nil))))
      pss_nil))))
  (pss_one (ps_ret (pv 2)))))), ?_⟩
    generalize hL : Txt.lines text = lines at hrow hmany hcnt q
    intro x dx nx ndx ne
    have eN : Ex H (upd (upd H dx (.own x)) x (.ins cP dx [])) := (Ex.new ndx).trans (Ex.new (by rw [upd_ne ne.symm]; exact nx))
    refine ⟨x, dx, rfl, upd_same, fun H1 d lo lc kp nd nlo nlc h0 => ⟨rfl, ?_⟩⟩
    have e1 : Ex H H1 := fun b o hb => kp b o (fun z => by rw [z, nx] at hb; cases hb) (eN _ _ hb)
    have nd0 : H d = none := fresh_back eN nd
    have nlo0 : H lo = none := fresh_back eN nlo
    have nlc0 : H lc = none := fresh_back eN nlc
    have st0 : PlS cP A pst0 x (T0 x d lo lc) 0 H1 := .inl ⟨rfl, d, lo, lc, h0, rfl⟩
    have T00 : ∀ b, T0 x d lo lc b → H b = none := fun b hb => by
      rcases hb with rfl | rfl | rfl | rfl
      · exact nx
      · exact nd0
      · exact nlo0
      · exact nlc0
    clear nx ndx ne eN kp nd nlo nlc nd0 nlo0 nlc0 h0
    generalize T0 x d lo lc = Ti at st0 T00
    refine q_asgL (el_lst ea_nil (by decide)) fun la H2 nla e2 hla => ?_
    have e12 := e1.trans e2
    have nla0 : H la = none := fresh_back e1 nla
    have nTla : ¬ Ti la := fun z => by
      obtain ⟨o, ho⟩ := st0.live z
      rw [nla] at ho
      cases ho
    have fin : ∀ {H' : Hp}, (∀ b o, H b = some o → H' b = some o) → H' la = some (.lst ((playT lines).map V.str)) → ∀ o3 o4, (tRet (tVar 2)) { nx := fun _ H' => Q .non H', rt := Q } [some (.str text), some (.ref x), some (.ref la), o3, o4, none] H' := fun {H'} e h o3 o4 => ret_go ((ev_var (v := .ref la) rfl : Ev (tVar 2) _ H' _) H' (Ex.refl _) _ fun H3 e3 => q la H3 nla0 (fun b o hb => e3 _ _ (e b o hb)) (e3 _ _ h))
    refine q_forNLn (K := K) (D := { nx := _, rt := Q }) (xs := lines.map V.str) (hL ▸ el_lines (ev_var (v := .str text) rfl) tl0) (fun lr i σ' H' => ∃ (s : PSt) (T' : Addr → Prop) (n : Nat) (o3 o4 : Option V) (as : List Str), σ' = [some (.str text), some (.ref x), some (.ref la), o3, o4, none] ∧ PlS cP A s x T' n H' ∧ ¬ T' la ∧ ¬ T' lr ∧ H' la = some (.lst (as.map V.str)) ∧ la ≠ lr ∧ H' lr = some (.lst (lines.map V.str)) ∧ (∀ b o, H b = some o → H' b = some o) ∧ (∀ b, T' b → H b = none) ∧ as ++ runR s (rowsW (lines.drop i)) = playT lines ∧ n + cntAll (rowsW (lines.drop i)) ≤ 63 ∧ as.length ≤ i)
      (fun lr H3 nlr e3 hlr => ⟨pst0, Ti, 0, none, none, [], rfl, st0.mono (e2.trans e3), nTla, fun z => ?_, e3 _ _ hla, ne_of_none hla nlr, hlr, e12.trans e3, T00, rfl, by rw [List.drop_zero, Nat.zero_add]; exact hcnt, Nat.zero_le _⟩) (fun lr i σ' H' hi ⟨s, T', n, o3, o4, as, _, _, _, _, _, _, h, _⟩ => sq_of h) (fun lr i v σ' H' hv ⟨s, T', n, o3, o4, as, hσ, hS, nTa, nTr, hA, nar, hR, ef, hT, hrun, hc, hlen⟩ => ?_) fun lr σ' H' ⟨s, T', n, o3, o4, as, hσ, hS, nTa, nTr, hA, nar, hR, ef, hT, hrun, hc, hlen⟩ => ?_
    · obtain ⟨o, ho⟩ := (st0.mono e2).live z
      rw [nlr] at ho
      cases ho
    · subst hσ
      rw [List.getElem?_map] at hv
      obtain ⟨row, hrw, rfl⟩ := Option.map_eq_some_iff.mp hv
      have hil := (List.getElem?_eq_some_iff.mp hrw).1
      have hmem := List.mem_of_getElem? hrw
      obtain ⟨rl, rw_⟩ := hrow row hmem
      have hdrop : lines.drop i = row :: lines.drop (i + 1) := drop_at hrw
      rw [hdrop] at hrun hc
      have lc := el_lcNL (K := K) (σ := [some (.str text), some (.ref x), some (.ref la), some (.str row), o4, none]) (H := H') (xs := (Txt.split row (" " : Str)).map V.str) (j := 5) (vs := [5]) (t := tTest (tOp rNe (tVar 5) (tC (.str "")))) (te := tVar 5) (fun i => decide ((Txt.split row (" " : Str)).getD i "" ≠ ("" : Str))) (fun i => V.str ((Txt.split row (" " : Str)).getD i "")) (el_split (ev_var (i := 3) (by rfl)) (by omega)) (by rw [List.length_map]; have := PyProof.Rows.split_weight row (" " : Str) (by decide +kernel); omega) (fun x => rfl) (fun j x H3 e3 hx => by
        rw [List.getElem?_map] at hx
        obtain ⟨y, hy, rfl⟩ := Option.map_eq_some_iff.mp hx
        have ey : (Txt.split row (" " : Str)).getD j "" = y := by rw [List.getD_eq_getElem?_getD, hy]; rfl
        rw [ey]
        refine et_is (et_test (ev_op (ev_var (v := .str y) rfl) ev_c (rv_ne rfl))) ?_
        by_cases z : y = ("" : Str)
        · rw [z, decide_eq_true rfl]
          rfl
        · rw [decide_eq_false (fun u => z (by injection u)), decide_eq_true z]
          rfl) (fun j x H3 e3 hx _ => ev_is (ev_var rfl) (by
        rw [List.getElem?_map] at hx
        obtain ⟨y, hy, rfl⟩ := Option.map_eq_some_iff.mp hx
        rw [List.getD_eq_getElem?_getD, hy]
        rfl))
      rw [List.length_map, given_filter] at lc
      have lc : EvL _ _ H' ((wordsS row).map V.str) := lc
      refine q_asgL (D := { nx := _, rt := Q, bk := _, ct := _ }) lc fun lw H3 nlw e3 hlw => ?_
      have tst : EvT (tTest (tOp (rI0 fun i j => V.bl (decide (i > j))) (tCB (fun xs H Q => ∃ p ys, xs = [.ref p] ∧ (SqL K H p ys ∨ SqT K H p ys) ∧ Q (.int ys.length) H) (tCons (tVar 4) tNil)) (tC (.int 0)))) [some (.str text), some (.ref x), some (.ref la), some (.str row), some (.ref lw), none] H3 (decide (((wordsS row).length : Int) > 0)) := et_test (ev_op (ev_is (ev_lenL (K := K) (ev_var rfl) (sq_of hlw)) (by rw [List.length_map])) ev_c rv_I0)
      have hS3 := hS.mono e3
      by_cases hw : wordsS row = []
      · refine s_when (D := { nx := _, rt := Q, bk := _, ct := _ }) (b := false) (et_is tst (by rw [hw]; rfl)) (fun z => by cases z) fun _ H4 e4 => ?_
        have er : rowsW (row :: lines.drop (i + 1)) = rowsW (lines.drop (i + 1)) := if_pos hw
        rw [er] at hrun hc
        have e34 := e3.trans e4
        exact ⟨s, T', n, _, _, as, rfl, hS.mono e34, nTa, nTr, e34 _ _ hA, nar, e34 _ _ hR, fun b o hb => e34 _ _ (ef b o hb), hT, hrun, hc, by omega⟩
      · have er : rowsW (row :: lines.drop (i + 1)) = wordsS row :: rowsW (lines.drop (i + 1)) := if_neg hw
        rw [er] at hrun hc
        have hc : n + (cntW (wordsS row) + cntAll (rowsW (lines.drop (i + 1)))) ≤ 63 := hc
        have hpos : 0 < (wordsS row).length := List.length_pos_iff.mpr hw
        refine s_when (D := { nx := _, rt := Q, bk := _, ct := _ }) (b := true) (et_is tst (decide_eq_true (by omega))) (fun _ H4 e4 => ?_) fun z => by cases z
        have e34 := e3.trans e4
        have hS4 := hS.mono e34
        have nTw : ¬ T' lw := fun z => by
          obtain ⟨o, ho⟩ := hS.live z
          rw [nlw] at ho
          cases ho
        refine appM_go (ev_var (v := .ref la) rfl) (e34 _ _ hA) fun H5 e5 => ?_
        have e35 := e34.trans e5
        refine call1v_go (tcall_go (vs := [.ref x, .ref lw]) (ea_cons (ev_var rfl) (ea_cons (ev_var rfl) ea_nil)) fun H6 e6 => ⟨s, x, T', n, lw, wordsS row, rfl, hS.mono (e35.trans e6), by omega, (e4.trans (e5.trans e6)) _ _ hlw, nTw, fun w hw2 => ⟨words_ne hw2, rw_ w hw2⟩, hw, fun H7 T2 st kp gr => ?_⟩)
        have e36 := e35.trans e6
        have keep0 := Keep.after e36 kp
        have grow0 := gr.back e36
        have hA7 := keep0 _ _ nTa hA
        have hR7 := keep0 _ _ nTr hR
        have nT2a : ¬ T2 la := fun z => (grow0 la z).elim nTa fun y => by rw [hA] at y; cases y
        have nT2r : ¬ T2 lr := fun z => (grow0 lr z).elim nTr fun y => by rw [hR] at y; cases y
        refine ⟨la, as.map V.str, _, rfl, rfl, hA7, sz_lt (by rw [List.length_map]; omega), ?_⟩
        have ea : as.map V.str ++ [V.str (stepR s (wordsS row)).1.txt] = (as ++ [(stepR s (wordsS row)).1.txt]).map V.str := by rw [List.map_append]; rfl
        rw [ea]
        refine ⟨_, T2, _, _, _, as ++ [(stepR s (wordsS row)).1.txt], rfl, st.updL hA7 nT2a, nT2a, nT2r, upd_same, nar, by rw [upd_ne nar.symm]; exact hR7, fun b o hb => ?_, fun b hb => ?_, by rw [List.append_assoc]; exact hrun, by omega, by rw [List.length_append]; show _ + 1 ≤ _; omega⟩
        · have nb : b ≠ la := fun z => by rw [z, nla0] at hb; cases hb
          rw [upd_ne nb]
          refine keep0 b o (fun z => ?_) (ef b o hb)
          rw [hT b z] at hb
          cases hb
        · rcases grow0 b hb with z | z
          · exact hT b z
          · cases e : H b with
            | none => rfl
            | some o =>
              rw [ef b o e] at z
              cases z
    · subst hσ
      rw [List.length_map, List.drop_length] at hrun
      have hrun : as ++ [] = playT lines := hrun
      rw [List.append_nil] at hrun
      exact fin ef (by rw [← hrun]; exact hA) o3 o4
end
/-! texts of rows -/
theorem wordsS_is {row : Str} {ws : List Str} (h : wd (TL.tl row) = ws.map TL.tl) : wordsS row = ws := by
  refine TL.map_tl_inj ?_
  rw [← h]
  exact words_tl row
theorem step_cons (s : PSt) (w0 : Str) (r : List Str) : stepR s (w0 :: r) = if w0 = "own" ∨ w0 = "common" then boundR s (w0 :: r) else if w0 = "ask" ∨ w0 = "visit" then askR s (w0 :: r) else if w0 = "names" ∨ w0 = "kept" then tellR s (w0 :: r) else (.no 5, s) := rfl
theorem rtw_asgW {te : TE} {u : TS} {σ : L2.St} {H : Hp} {W W' : V → Hp → Prop} {i : Nat} (h : EvW te σ H W) (k : ∀ v H1, Ex H H1 → W v H1 → RtW u (σ.set i (some v)) H1 W') : RtW (tSeq (tAsg te (gName i)) u) σ H W' := fun H1 e D q => h H1 e _ fun v H2 e2 w => k v H2 (e.trans e2) w H2 (Ex.refl _) D fun v' H3 e3 p => q v' H3 (e2.trans e3) p
theorem rtw_asgL {te : TE} {u : TS} {σ : L2.St} {H : Hp} {W' : V → Hp → Prop} {i : Nat} {xs : List V} (h : EvL te σ H xs) (k : ∀ p H1, H p = none → Ex H H1 → H1 p = some (.lst xs) → RtW u (σ.set i (some (.ref p))) H1 W') : RtW (tSeq (tAsg te (gName i)) u) σ H W' := fun H1 e D q => h H1 e _ fun p H2 np e2 hp => k p H2 (fresh_back e np) (e.trans e2) hp H2 (Ex.refl _) D fun v' H3 e3 p => q v' H3 (e2.trans e3) p
theorem ev_addS {ta tb : TE} {σ : L2.St} {H : Hp} {a b : Str} (ha : Ev ta σ H (.str a)) (hb : Ev tb σ H (.str b)) (hl : a.length + b.length ≤ 100000) : Ev (tOp (fun x y H Q => ∃ i j : Str, x = .str i ∧ y = .str j ∧ i.length + j.length ≤ sizeLine ∧ Q (.str (i ++ j)) H) ta tb) σ H (.str (a ++ b)) := ev_op ha hb fun H1 _ Q q => ⟨a, b, rfl, rfl, sz_of hl, q H1 (Ex.refl _)⟩
def repS (z : Str) (k : Nat) : Str := ⟨((List.replicate k (TL.tl z)).flatten).toArray⟩
theorem repS_tl (z : Str) (k : Nat) : TL.tl (repS z k) = (List.replicate k (TL.tl z)).flatten := rfl
theorem fold_list (n : Nat) (x : Array Nat) : ∀ acc : Array Nat, ((List.replicate n x).foldl (· ++ ·) acc).toList = acc.toList ++ (List.replicate n x.toList).flatten := by
  induction n with
  | zero => intro acc; simp
  | succ n ih =>
    intro acc
    rw [List.replicate_succ, List.foldl_cons, ih, Array.toList_append, List.replicate_succ, List.flatten_cons, List.append_assoc]
theorem flat_len : ∀ (n : Nat) (l : List Nat), (List.replicate n l).flatten.length = n * l.length
  | 0, l => by simp
  | n + 1, l => by rw [List.replicate_succ, List.flatten_cons, List.length_append, flat_len n l, Nat.add_mul]; omega
theorem tl_app (a b : Str) : TL.tl (a ++ b) = TL.tl a ++ TL.tl b := TL.tl_append a b
theorem wd3 {a b c d : List Nat} (ha : 32 ∉ a ∧ a ≠ []) (hb : 32 ∉ b ∧ b ≠ []) (hc : 32 ∉ c ∧ c ≠ []) (hd : 32 ∉ d ∧ d ≠ []) : wd (a ++ 32 :: (b ++ 32 :: (c ++ 32 :: d))) = [a, b, c, d] := by
  rw [wd_word _ ha.1 ha.2, wd_word _ hb.1 hb.2, wd_word _ hc.1 hc.2, wd_last hd.1 hd.2]
theorem log_16 {i : Int} (h0 : 0 ≤ i) (h1 : i ≤ 10000000000000000) : i.natAbs.log2 < 1920 := by
  by_cases z : i.natAbs = 0
  · rw [z]
    decide
  · have h : i.natAbs < 2 ^ 60 := by
      have : i.natAbs ≤ 10000000000000000 := by omega
      exact Nat.lt_of_le_of_lt this (by decide)
    exact Nat.lt_trans ((Nat.log2_lt z).mpr h) (by decide)
theorem isFig_dig {c : Nat} (h : 48 ≤ c ∧ c ≤ 57) : isFig c = true := by
  unfold isFig
  rw [show TL.tl ("0123456789" : Str) = [48, 49, 50, 51, 52, 53, 54, 55, 56, 57] by decide +kernel]
  refine decide_eq_true ?_
  simp only [List.mem_cons, List.not_mem_nil, or_false]
  omega
theorem num_intS {i : Int} (h0 : 0 ≤ i) (h1 : i < 10000000000000000) : numW (intS i) = some i := by
  have t := intS_tl h0
  have l : (intS i).length ≤ 16 := by
    rw [TL.len_tl, t]
    exact TL.numL_len (by decide) (by omega)
  have fig : (TL.tl (intS i)).all isFig = true := by
    rw [t]
    exact List.all_eq_true.mpr fun c hc => isFig_dig (TL.numL_digits i.toNat c hc)
  unfold numW
  rw [if_pos ⟨l, fig⟩, t, TL.numL_val]
  exact congrArg some (Int.toNat_of_nonneg h0)
theorem intS_word {i : Int} (h0 : 0 ≤ i) (h1 : i < 10000000000000000) : (∀ x ∈ TL.tl (intS i), x ≠ 32 ∧ PySem.Unicode.isLineBreak x = false) ∧ TL.tl (intS i) ≠ [] ∧ (intS i).length ≤ 16 := by
  have t := intS_tl h0
  refine ⟨fun x hx => ?_, ?_, ?_⟩
  · rw [t] at hx
    have z := TL.numL_digits i.toNat x hx
    refine ⟨by omega, ?_⟩
    have all : (List.range 10).all (fun d => !PySem.Unicode.isLineBreak (48 + d)) = true := by decide +kernel
    have y := List.all_eq_true.mp all (x - 48) (List.mem_range.mpr (by omega))
    rw [show 48 + (x - 48) = x by omega] at y
    simpa using y
  · rw [t]
    exact TL.numL_ne _
  · rw [TL.len_tl, t]
    exact TL.numL_len (by decide) (by omega)
theorem atI_str {ws : List Str} {i : Int} {n : Nat} (h0 : 0 ≤ i) (hn : i < (n : Int)) (hl : ws.length = n) : ∃ w, w ∈ ws ∧ atI (ws.map V.str) i = some (.str w) := by
  obtain ⟨k, rfl⟩ : ∃ k : Nat, i = (k : Int) := ⟨i.toNat, by omega⟩
  have hk : k < ws.length := by omega
  exact ⟨ws[k], List.getElem_mem hk, atI_nat (by rw [List.getElem?_map, List.getElem?_eq_getElem hk]; rfl)⟩
theorem sl_take13 (vs : List V) (p : Nat) (h : p ≤ vs.length) : cutV vs none (some (p : Int)) = vs.take p := by
  unfold cutV
  rw [HT.sIx_nat, HT.sIx_none, List.drop_zero, Nat.sub_zero, show min p vs.length = p by omega]
theorem sl_drop13 (vs : List V) (p : Nat) (h : p ≤ vs.length) : cutV vs (some (p : Int)) none = vs.drop p := by
  unfold cutV
  rw [HT.sIx_nat, HT.sIx_none, show min p vs.length = p by omega]
  exact List.take_of_length_le (by rw [List.length_drop]; omega)
theorem joinL_len (S : List Nat) : ∀ ps : List (List Nat), (TL.joinL S ps).length ≤ (ps.map List.length).sum + ps.length * S.length
  | [] => Nat.zero_le _
  | [p] => by
    show p.length ≤ (p.length + 0) + 1 * S.length
    omega
  | p :: q :: r => by
    show (p ++ (S ++ TL.joinL S (q :: r))).length ≤ _
    have ih := joinL_len S (q :: r)
    rw [List.length_append, List.length_append, List.map_cons, List.sum_cons, List.length_cons, Nat.add_mul]
    omega
theorem nil_words : wordsS Str.empty = [] := by decide +kernel
theorem ne_of_words {r : Str} (h : wordsS r ≠ []) : TL.tl r ≠ [] := fun z => h (by
  have e : r = Str.empty := TL.ext_tl (by rw [z]; rfl)
  rw [e]
  exact nil_words)
theorem cntW_le (ws : List Str) : cntW ws ≤ 1 := by
  unfold cntW
  split
  · exact Nat.le_refl _
  · split <;> omega
theorem rowsW_len : ∀ rows : List Str, (rowsW rows).length ≤ rows.length
  | [] => Nat.le_refl _
  | r :: rs => by
    have ih := rowsW_len rs
    rw [rowsW]
    split
    · rw [List.length_cons]
      omega
    · rw [List.length_cons, List.length_cons]
      omega
theorem q_appE {K : PySem.W.Frag} {ta te : TE} {u : TS} {D : Ends} {σ : L2.St} {H : Hp} {l : Addr} {xs : List V} {v : V} (ha : Ev ta σ H (.ref l)) (hl : H l = some (.lst xs)) (hv : Ev te σ H v) (hz : xs.length < 100000) (k : ∀ H1, Ex H H1 → u D σ (upd H1 l (.lst (xs ++ [v])))) : tSeq (tDrop (tBM K "list" rAppend ta (tCons te tNil))) u D σ H := q_app hl ha hv hz k
def dS (s : Str) : PyData := .str s
theorem dp_strs {K : PySem.W.Frag} {H : Hp} : ∀ ws : List Str, DpAll K H (ws.map V.str) (ws.map dS)
  | [] => .nil
  | w :: ws => .cons (.str w) (dp_strs ws)
theorem lay_strs : ∀ ws : List Str, (∀ x ∈ ws, PyData.strOk x = true) → PyData.canLayAll0 (ws.map dS) = true
  | [], _ => by simp only [List.map_nil, PyData.canLayAll0]
  | w :: ws, h => by simp only [List.map_cons, PyData.canLayAll0, dS, PyData.canLay0, lay_strs ws fun x hx => h x (List.mem_cons_of_mem _ hx), h w List.mem_cons_self, Bool.and_self]
theorem dep_strs : ∀ ws : List Str, PyData.depthAll (ws.map dS) ≤ 1
  | [] => by simp only [List.map_nil, PyData.depthAll]; omega
  | w :: ws => by
    have z := dep_strs ws
    simp only [List.map_cons, PyData.depthAll, dS, PyData.depth]
    omega
theorem shp_strs (ws : List Str) (h : ∀ x ∈ ws, PyData.strOk x = true) : PySem.SeqAt.shaped (.list (ws.map dS)) = true := shaped_list (lay_strs ws h) (by have := dep_strs ws; omega)
theorem eqv_strs : ∀ ws : List Str, PyData.eqvAll (ws.map dS) (ws.map dS) = true
  | [] => by simp [PyData.eqvAll]
  | w :: ws => by simp only [List.map_cons, PyData.eqvAll, dS, PyData.eqv, eqv_strs ws, beq_self_eq_true, Bool.and_self]
theorem rv_eqStrs {K : PySem.W.Frag} {H : Hp} {a b : Addr} {ws : List Str} (ok : ∀ x ∈ ws, PyData.strOk x = true) (ha : H a = some (.lst (ws.map V.str))) (hb : H b = some (.lst (ws.map V.str))) : RV (rEqD K) (.ref a) (.ref b) H (.bl true) := by
  have z := rv_eqD (K := K) (x := .ref a) (y := .ref b) (H := H) (fun H1 e => .lst (sq_of (e _ _ ha)) (dp_strs ws)) (fun H1 e => .lst (sq_of (e _ _ hb)) (dp_strs ws)) (shp_strs ws ok) (shp_strs ws ok)
  have e1 : PyData.eqv (.list (ws.map dS)) (.list (ws.map dS)) = true := by simp only [PyData.eqv, eqv_strs]
  rw [e1] at z
  exact z
theorem ev_opLL {ta tb : TE} {σ : L2.St} {H : Hp} {r : R2} {xs ys : List V} {z : V} (ha : EvL ta σ H xs) (hb : EvL tb σ H ys) (hr : ∀ a b H2, H2 a = some (.lst xs) → H2 b = some (.lst ys) → RV r (.ref a) (.ref b) H2 z) : Ev (tOp r ta tb) σ H z := fun H1 e Q q =>
  ha H1 e _ fun a H2 _ e2 h2 => hb H2 (e.trans e2) _ fun b H3 _ e3 h3 => hr a b H3 (e3 _ _ h2) h3 H3 (Ex.refl _) Q fun H4 e4 => q H4 ((e2.trans e3).trans e4)
def rMulS : R2 := fun x y H Q => ∃ (z : Str) (k : Int), x = .str z ∧ y = .int k ∧ 0 ≤ k ∧ k ≤ 1000 ∧ 1 ≤ z.length ∧ z.length ≤ 100 ∧ Q (.str (repS z k.toNat)) H
theorem rep_none (z : Str) : repS z 0 = Str.empty := TL.ext_tl rfl
theorem rep_one (z : Str) : repS z 1 = z := TL.ext_tl (by
  rw [repS_tl]
  show TL.tl z ++ [] = TL.tl z
  rw [List.append_nil])
theorem op_mulS {X : Cx} : OpR X (binaryOp .Mult) rMulS := by
  intro pins s σ H x y v u Q I rx ry h
  obtain ⟨z, k, rfl, rfl, h1, h2, z1, z2, q⟩ := h
  obtain ⟨t, rfl⟩ := rx
  obtain ⟨t2, rfl⟩ := ry
  have hk : k.toNat ≤ 1000 := by omega
  have hm : z.length * k.toNat ≤ 100 * 1000 := Nat.mul_le_mul z2 hk
  refine PySem.P.mul_str ?_ (fun k1 k2 => ?_) (fun _ _ => ?_) ?_
  · rw [decide_eq_false (by omega), decide_eq_false (by omega)]
    rfl
  · have dv : (100 : Int) ≤ (2 ^ 63 - 1) / k := by
      rw [Int.le_ediv_iff_mul_le (by omega)]
      omega
    omega
  · exact short24 (by omega)
  · by_cases n1 : k < 1
    · rw [if_pos n1]
      have k0 : k.toNat = 0 := by omega
      rw [k0, rep_none] at q
      exact ⟨by decide, .str _, H, I.tok _, ⟨_, rfl⟩, q⟩
    · rw [if_neg n1]
      by_cases n2 : k = 1
      · rw [if_pos (by rw [n2]; rfl)]
        have k0 : k.toNat = 1 := by omega
        rw [k0, rep_one] at q
        exact ⟨.str z, H, I, ⟨_, rfl⟩, q⟩
      · have n2 : ¬ (k == 1 || z.length == 0) = true := by
          rw [Bool.or_eq_true, beq_iff_eq, beq_iff_eq]
          omega
        rw [if_neg n2]
        have e : (⟨(List.replicate k.toNat z.cps).foldl (· ++ ·) #[]⟩ : Str) = repS z k.toNat := TL.ext_tl (by
          rw [repS_tl]
          show ((List.replicate k.toNat z.cps).foldl (· ++ ·) #[]).toList = _
          rw [fold_list]
          rfl)
        have el : (repS z k.toNat).length = k.toNat * z.length := by
          rw [TL.len_tl, repS_tl, flat_len, ← TL.len_tl]
        rw [e]
        exact ⟨sz_of (by rw [el, Nat.mul_comm]; omega), .str _, H, I.tok _, ⟨_, rfl⟩, q⟩
def rStrA : List V → Hp → VK → Prop := fun xs H Q => ∃ v t, xs = [v] ∧ ((∃ a, v = .str a ∧ t = a) ∨ ∃ i : Int, v = .int i ∧ i.natAbs.log2 < 1920 ∧ t = intS i) ∧ Q (.str t) H
theorem call_strA {X : Cx} : CallR X (.type "str") rStrA := by
  intro pins s σ H xs us Q I r h
  obtain ⟨v, t, rfl, h, q⟩ := h
  rcases h with ⟨a, rfl, rfl⟩ | ⟨i, rfl, hl, rfl⟩
  · obtain ⟨u, rfl, t', rfl⟩ := vals1 r
    exact PySem.P.str_of_str ⟨.str t, H, I, ⟨t', rfl⟩, q⟩
  · exact call_str_int pins s σ H [.int i] us Q I r ⟨i, rfl, hl, q⟩
def Bd.nm : Bd → Str
  | .jar _ _ => "jar"
  | .win _ _ => "window"
def dV : V → PySem.PyData
  | .int i => .int i
  | .str x => .str x
  | _ => .none
def Fl (v : V) : Prop := (∃ i, v = .int i) ∨ (∃ x, v = .str x ∧ PySem.PyData.strOk x = true) ∨ v = .non
theorem dp_fl {K : PySem.W.Frag} {H : Hp} : ∀ {xs : List V}, (∀ v ∈ xs, Fl v) → DpAll K H xs (xs.map dV)
  | [], _ => .nil
  | v :: xs, h => by
    refine .cons ?_ (dp_fl fun z hz => h z (List.mem_cons_of_mem _ hz))
    rcases h v List.mem_cons_self with ⟨i, rfl⟩ | ⟨x, rfl, _⟩ | rfl
    · exact .int i
    · exact .str x
    · exact .non
theorem lay_fl : ∀ {xs : List V}, (∀ v ∈ xs, Fl v) → PySem.PyData.canLayAll0 (xs.map dV) = true
  | [], _ => by simp only [List.map_nil, PySem.PyData.canLayAll0]
  | v :: xs, h => by
    have ih := lay_fl (xs := xs) fun z hz => h z (List.mem_cons_of_mem _ hz)
    rw [List.map_cons]
    rcases h v List.mem_cons_self with ⟨i, rfl⟩ | ⟨x, rfl, hx⟩ | rfl
    · simp only [dV, PySem.PyData.canLayAll0, PySem.PyData.canLay0, ih, Bool.and_self]
    · simp only [dV, PySem.PyData.canLayAll0, PySem.PyData.canLay0, ih, hx, Bool.and_self]
    · simp only [dV, PySem.PyData.canLayAll0, PySem.PyData.canLay0, ih, Bool.and_self]
theorem dep_fl : ∀ {xs : List V}, PySem.PyData.depthAll (xs.map dV) ≤ 1
  | [] => by simp only [List.map_nil, PySem.PyData.depthAll]; omega
  | v :: xs => by
    rw [List.map_cons]
    have := dep_fl (xs := xs)
    cases v <;> simp only [dV, PySem.PyData.depthAll, PySem.PyData.depth] <;> omega
theorem shaped_flL {xs : List V} (hf : ∀ v ∈ xs, Fl v) : PySem.SeqAt.shaped (.list (xs.map dV)) = true := by
  have h := dep_fl (xs := xs)
  unfold PySem.SeqAt.shaped
  rw [Bool.and_eq_true]
  refine ⟨?_, decide_eq_true ?_⟩
  · simp only [PySem.PyData.canLay0, lay_fl hf]
  · simp only [PySem.PyData.depth]
    omega
theorem refG_lt {last : Int} {nv mv cv : V} {i : Nat} (h : refG last nv mv cv = some i) : 1 ≤ i ∧ i < 5 := by
  unfold refG at h
  split at h
  · cases h; omega
  split at h
  · cases h; omega
  split at h
  · cases h; omega
  split at h
  · cases h; omega
  · cases h
theorem ev_joinL {K : PySem.W.Frag} {ts te : TE} {σ : L2.St} {H : Hp} {a : Str} {ys : List Str} (hs : Ev ts σ H (.str a)) (h : EvL te σ H (ys.map V.str)) (hb : (ys.map (·.length)).sum + ys.length * a.length ≤ 16777216) : Ev (tM1 (fun x xs H Q => ∃ (a : Str) (p : Addr) (ys : List Str), x = .str a ∧ xs = [.ref p] ∧ (SqL K H p (ys.map V.str) ∨ SqT K H p (ys.map V.str)) ∧ (ys.map (·.length)).sum + ys.length * a.length ≤ 16777216 ∧ Q (.str (Txt.join a ys)) H) ts te) σ H (.str (Txt.join a ys)) := fun H1 e Q q =>
  hs H1 e _ fun H2 e2 => ⟨⟨_, rfl⟩, h H2 (e.trans e2) _ fun p H3 _ e3 hp => ⟨a, p, ys, rfl, rfl, .inl (sq_of hp), hb, q H3 (e2.trans e3)⟩⟩
/-! what a row asks, what is told of it -/
inductive Ask
  | tell (w : Str)
  | ask (w n : Str) (t c : Int)
def Ask.vs : Ask → List V
  | .tell w => [.str w]
  | .ask w n t c => [.str w, .str n, .int t, .int c]
def Ask.ws : Ask → List Str
  | .tell w => [w]
  | .ask w n t c => [w, n, intS t, intS c]
def nms12 : List Str := ["a", "bb", "abcdefgh", "z", "A", "abcdefghi", "a1", "-"]
def Ask.ok : Ask → Prop
  | .tell w => w = "names" ∨ w = "kept"
  | .ask w n t c => (w = "ask" ∨ w = "visit") ∧ n ∈ nms12 ∧ 0 ≤ t ∧ t ≤ 1000000000001 ∧ 0 ≤ c ∧ c ≤ 1000000001
def Ask.told : Ask → List Str → Prop
  | .tell w, ws => ws = [w]
  | .ask w n t c, ws => ∃ y z, ws = [w, n, y, z] ∧ numW y = some t ∧ numW z = some c
def ansS (st : GSt) : Ask → Ans
  | .tell w => if w = "kept" then .ok (intS (st.keptN : Nat)) else .ok (namesT (st.ppl.map (·.1)))
  | .ask _ n t c => match refG st.last (.str n) (.int t) (.int c) with
    | some i => .no i
    | none => .ok (st.text n t c)
def nextS (st : GSt) : Ask → GSt
  | .tell _ => st
  | .ask w n t c => match refG st.last (.str n) (.int t) (.int c) with
    | some _ => st
    | none => if w = "ask" then st else st.next n t c
theorem step_ask {s : PSt} {a : Ask} {ws : List Str} (ok : a.ok) (h : a.told ws) : stepR s ws = (ansS s.made a, s.wg (nextS s.made a)) := by
  cases a with
  | tell w =>
    obtain rfl : ws = [w] := h
    rw [step_cons]
    have ok : w = "names" ∨ w = "kept" := ok
    rcases ok with rfl | rfl
    · have n : ¬ ("names" : Str) = "kept" := by decide +kernel
      rw [if_neg (by decide +kernel), if_neg (by decide +kernel), if_pos (.inl rfl)]
      unfold tellR ansS
      dsimp only
      rw [if_neg n, if_neg n]
      rfl
    · have n : ("kept" : Str) = "kept" := rfl
      rw [if_neg (by decide +kernel), if_neg (by decide +kernel), if_pos (.inr rfl)]
      unfold tellR ansS
      dsimp only
      rw [if_pos n, if_pos n]
      rfl
  | ask w n t c =>
    obtain ⟨y, z, rfl, hy, hz⟩ := h
    have h0 : ¬ (w = "own" ∨ w = "common") := by
      rcases ok.1 with rfl | rfl <;> decide +kernel
    rw [step_cons, if_neg h0, if_pos ok.1]
    show (match numW y, numW z with | some t, some c => _ | _, _ => (Ans.no 5, s)) = _
    rw [hy, hz]
    show (match refG s.made.last (.str n) (.int t) (.int c) with | some i => (Ans.no i, s.wg s.made) | none => (.ok (s.made.text n t c), if w = "ask" then s.wg s.made else s.wg (s.made.next n t c))) = _
    unfold ansS nextS
    dsimp only
    cases refG s.made.last (.str n) (.int t) (.int c) with
    | some i => rfl
    | none =>
      dsimp only
      split <;> rfl
theorem made_wg (s : PSt) (g : GSt) : (s.wg g).made = g := rfl
/-- what holds of the gate's state along the rows -/
structure SInv (st : GSt) (k : Nat) : Prop where
  W : GWf st k
  cb : CB st
  nl : ∀ r ∈ st.ppl, r.1 ∈ nms12
theorem nms_all {p : Str → Bool} (h : nms12.all p = true) {n : Str} (hn : n ∈ nms12) : p n = true := List.all_eq_true.mp h n hn
theorem nms_len {n : Str} (hn : n ∈ nms12) : n.length ≤ 9 := by simpa using nms_all (p := fun n => decide (n.length ≤ 9)) (by decide +kernel) hn
theorem nms_ok {n : Str} (hn : n ∈ nms12) : PySem.PyData.strOk n = true := nms_all (p := PySem.PyData.strOk) (by decide +kernel) hn
theorem SInv.up {st : GSt} {k j : Nat} (h : SInv st k) (hk : k ≤ j) : SInv st j := ⟨h.W.up hk, h.cb, h.nl⟩
theorem ask_none {last : Int} {n : Str} {t c : Int} (h : refG last (.str n) (.int t) (.int c) = none) : last ≤ t ∧ 0 ≤ t ∧ t ≤ 1000000000000 ∧ 1 ≤ c ∧ c ≤ 1000000000 := by
  obtain ⟨_, _, _, y1, _, y2, t0, t1, tl, y3, c0, c1⟩ := refG_none h
  cases y1
  cases y2
  cases y3
  exact ⟨tl, t0, t1, c0, c1⟩
theorem SInv.next {st : GSt} {k : Nat} {a : Ask} (h : SInv st k) (ok : a.ok) : SInv (nextS st a) (k + 1) := by
  cases a with
  | tell w => exact h.up (by omega)
  | ask w n t c =>
    unfold nextS
    dsimp only
    cases hr : refG st.last (.str n) (.int t) (.int c) with
    | some i => exact h.up (by omega)
    | none =>
      dsimp only
      obtain ⟨tl, t0, t1, c0, c1⟩ := ask_none hr
      split
      · exact h.up (by omega)
      · refine ⟨?_, h.cb.next c1, ?_⟩
        · unfold GSt.next
          split
          · exact h.W.step tl t1 c0
          · exact h.W.up (by omega)
        · unfold GSt.next
          split
          · intro r hr
            rcases putP_names (show r ∈ putP st.ppl n t c from hr) with z | ⟨q, hq, z⟩
            · rw [z]
              exact ok.2.1
            · rw [← z]
              exact h.nl q hq
          · exact h.nl
/-! the texts are sound ones -/
theorem ok_tl {x : Str} (h : ∀ c ∈ TL.tl x, c < 0x110000) : PySem.PyData.strOk x = true := by
  unfold PySem.PyData.strOk
  rw [← Array.all_toList]
  exact List.all_eq_true.mpr fun c hc => decide_eq_true (h c hc)
theorem tl_ok {x : Str} (h : PySem.PyData.strOk x = true) : ∀ c ∈ TL.tl x, c < 0x110000 := fun c hc => by
  unfold PySem.PyData.strOk at h
  rw [← Array.all_toList] at h
  exact of_decide_eq_true (List.all_eq_true.mp h c hc)
theorem ok_app {a b : Str} (ha : PySem.PyData.strOk a = true) (hb : PySem.PyData.strOk b = true) : PySem.PyData.strOk (a ++ b) = true := ok_tl fun c hc => by
  rw [tl_app] at hc
  rcases List.mem_append.mp hc with z | z
  · exact tl_ok ha c z
  · exact tl_ok hb c z
theorem joinL_mem {S : List Nat} {c : Nat} : ∀ {ps : List (List Nat)}, c ∈ TL.joinL S ps → c ∈ S ∨ ∃ p ∈ ps, c ∈ p
  | [], h => by cases h
  | [p], h => .inr ⟨p, List.mem_cons_self, h⟩
  | p :: q :: r, h => by
    have h : c ∈ p ++ (S ++ TL.joinL S (q :: r)) := h
    rcases List.mem_append.mp h with z | z
    · exact .inr ⟨p, List.mem_cons_self, z⟩
    · rcases List.mem_append.mp z with y | y
      · exact .inl y
      · exact (joinL_mem y).imp id fun ⟨w, hw, z⟩ => ⟨w, List.mem_cons_of_mem _ hw, z⟩
theorem ok_join {s : Str} {l : List Str} (hs : PySem.PyData.strOk s = true) (hl : ∀ x ∈ l, PySem.PyData.strOk x = true) : PySem.PyData.strOk (Txt.join s l) = true := ok_tl fun c hc => by
  rw [TL.join_eq, TL.tl_join] at hc
  rcases joinL_mem hc with z | ⟨p, hp, z⟩
  · exact tl_ok hs c z
  · obtain ⟨x, hx, rfl⟩ := List.mem_map.mp hp
    exact tl_ok (hl x hx) c z
theorem ok_int {i : Int} (h : 0 ≤ i) : PySem.PyData.strOk (intS i) = true := ok_tl fun c hc => by
  rw [intS_tl h] at hc
  have z := TL.numL_digits i.toNat c hc
  omega
theorem ok_shut {w : Str} {k : Nat} {o : Option Int} (hw : w = "own" ∨ w = "common") (ho : ∀ i, o = some i → 0 ≤ i) : PySem.PyData.strOk (shutT w k o) = true := by
  unfold shutT
  refine ok_app (ok_app (ok_app (ok_app (ok_app (ok_app (by decide +kernel) (by decide +kernel)) ?_) (by decide +kernel)) (ok_int (by omega))) (by decide +kernel)) ?_
  · rcases hw with rfl | rfl <;> decide +kernel
  · cases o with
    | none => 
      show PySem.PyData.strOk ("never" : Str) = true
      decide +kernel
    | some i => exact ok_int (ho i rfl)
theorem ok_ref (k : Nat) : PySem.PyData.strOk (refT k) = true := by
  match k with
  | 0 => decide +kernel
  | 1 => decide +kernel
  | 2 => decide +kernel
  | 3 => decide +kernel
  | 4 => decide +kernel
  | n + 5 =>
    show PySem.PyData.strOk ("refused: BadRow" : Str) = true
    decide +kernel
theorem ans_ok {st : GSt} {k : Nat} {a : Ask} (h : SInv st k) (hk : k ≤ 800) : PySem.PyData.strOk (ansS st a).txt = true := by
  cases a with
  | tell w =>
    unfold ansS
    dsimp only
    split
    · exact ok_int (by omega)
    · show PySem.PyData.strOk (namesT _) = true
      unfold namesT
      split
      · decide +kernel
      · refine ok_join (by decide +kernel) fun x hx => ?_
        obtain ⟨r, hr, rfl⟩ := List.mem_map.mp ((isort_perm _).mem_iff.mp hx)
        exact nms_ok (h.nl r hr)
  | ask w n t c =>
    unfold ansS
    dsimp only
    cases hr : refG st.last (.str n) (.int t) (.int c) with
    | some i => exact ok_ref i
    | none =>
      obtain ⟨tl, t0, t1, c0, c1⟩ := ask_none hr
      show PySem.PyData.strOk (st.text n t c) = true
      rcases text_is (n := n) h.cb h.W hk tl (by omega) c1 with ⟨_, e⟩ | ⟨w', j, o, _, hw, _, ho, e⟩
      · rw [e]
        decide +kernel
      · rw [e]
        exact ok_shut hw fun i hi => (ho i hi).1
/-! bounds told by rows -/
def bw (w0 : Str) (b : Bd) : List Str := [w0, b.nm, intS b.cap, intS b.two]
theorem bd_of (b : Bd) : bdOf b.nm b.cap b.two = b := by
  cases b with
  | jar s f => exact if_pos rfl
  | win m s => exact if_neg (show ¬ ("window" : Str) = "jar" by decide +kernel)
theorem bd_num {b : Bd} (ok : b.ok) : 0 ≤ b.cap ∧ b.cap ≤ 1000000000000000 ∧ 0 ≤ b.two ∧ b.two ≤ 1000000000000000 := by
  cases b with
  | jar s f =>
    have h1 : 1 ≤ s := ok.1
    have h2 : s ≤ 1000000000000000 := ok.2.1
    have h3 : 0 ≤ f := ok.2.2.1
    have h4 : f ≤ 1000000000 := ok.2.2.2
    exact ⟨by show 0 ≤ s; omega, h2, h3, by show f ≤ _; omega⟩
  | win m s =>
    have h1 : 1 ≤ m := ok.1
    have h2 : m ≤ 1000000000000000 := ok.2.1
    have h3 : 1 ≤ s := ok.2.2.1
    have h4 : s ≤ 1000000000000 := ok.2.2.2
    exact ⟨by show 0 ≤ m; omega, h2, by show 0 ≤ s; omega, by show s ≤ _; omega⟩
theorem step_own {o c : List Bd} {b : Bd} (ok : b.ok) (h : o.length < 4) : stepR ⟨o, c, none⟩ (bw "own" b) = (.ok "ok", ⟨o ++ [b], c, none⟩) := by
  have n := bd_num ok
  unfold bw
  rw [step_cons, if_pos (.inl rfl)]
  show (if b.nm = "jar" ∨ b.nm = "window" then (match numW (intS b.cap), numW (intS b.two) with | some x, some y => (if (bdOf b.nm x y).okB = true then (if ("own" : Str) = "own" then (if o.length < 4 then (Ans.ok "ok", PSt.mk (o ++ [bdOf b.nm x y]) c none) else (.no 0, ⟨o, c, none⟩)) else _) else (Ans.no 0, ⟨o, c, none⟩)) | _, _ => (Ans.no 5, ⟨o, c, none⟩)) else (.no 5, ⟨o, c, none⟩)) = _
  rw [if_pos (by cases b; exact .inl rfl; exact .inr rfl), num_intS n.1 (by omega), num_intS n.2.2.1 (by omega)]
  show (if (bdOf b.nm b.cap b.two).okB = true then (if ("own" : Str) = "own" then (if o.length < 4 then (Ans.ok "ok", PSt.mk (o ++ [bdOf b.nm b.cap b.two]) c none) else (.no 0, ⟨o, c, none⟩)) else _) else (Ans.no 0, ⟨o, c, none⟩)) = _
  rw [bd_of, if_pos ((okB_iff b).mpr ok), if_pos rfl, if_pos h]
theorem step_com {o c : List Bd} {b : Bd} (ok : b.ok) (h : c.length < 4) : stepR ⟨o, c, none⟩ (bw "common" b) = (.ok "ok", ⟨o, c ++ [b], none⟩) := by
  have n := bd_num ok
  unfold bw
  rw [step_cons, if_pos (.inr rfl)]
  show (if b.nm = "jar" ∨ b.nm = "window" then (match numW (intS b.cap), numW (intS b.two) with | some x, some y => (if (bdOf b.nm x y).okB = true then (if ("common" : Str) = "own" then _ else (if c.length < 4 then (Ans.ok "ok", PSt.mk o (c ++ [bdOf b.nm x y]) none) else (.no 0, ⟨o, c, none⟩))) else (Ans.no 0, ⟨o, c, none⟩)) | _, _ => (Ans.no 5, ⟨o, c, none⟩)) else (.no 5, ⟨o, c, none⟩)) = _
  rw [if_pos (by cases b; exact .inl rfl; exact .inr rfl), num_intS n.1 (by omega), num_intS n.2.2.1 (by omega)]
  show (if (bdOf b.nm b.cap b.two).okB = true then (if ("common" : Str) = "own" then _ else (if c.length < 4 then (Ans.ok "ok", PSt.mk o (c ++ [bdOf b.nm b.cap b.two]) none) else (.no 0, ⟨o, c, none⟩))) else (Ans.no 0, ⟨o, c, none⟩)) = _
  rw [bd_of, if_pos ((okB_iff b).mpr ok), if_neg (by decide +kernel), if_pos h]
theorem run_own {c : List Bd} : ∀ {bs o : List Bd}, (∀ b ∈ bs, b.ok) → o.length + bs.length ≤ 4 → runR ⟨o, c, none⟩ (bs.map (bw "own")) = List.replicate bs.length ("ok" : Str) ∧ endR ⟨o, c, none⟩ (bs.map (bw "own")) = ⟨o ++ bs, c, none⟩
  | [], o, _, _ => ⟨rfl, by rw [List.append_nil]; rfl⟩
  | b :: bs, o, h, l => by
    rw [List.length_cons] at l
    have e := step_own (o := o) (c := c) (h b List.mem_cons_self) (by omega)
    obtain ⟨h1, h2⟩ := run_own (c := c) (bs := bs) (o := o ++ [b]) (fun x hx => h x (List.mem_cons_of_mem _ hx)) (by rw [List.length_append]; show _ + 1 + _ ≤ _; omega)
    rw [List.map_cons, runR, endR, e]
    refine ⟨?_, ?_⟩
    · show ("ok" : Str) :: _ = _
      rw [h1, List.length_cons, List.replicate_succ]
    · rw [h2, List.append_assoc]
      rfl
theorem run_com {o : List Bd} : ∀ {bs c : List Bd}, (∀ b ∈ bs, b.ok) → c.length + bs.length ≤ 4 → runR ⟨o, c, none⟩ (bs.map (bw "common")) = List.replicate bs.length ("ok" : Str) ∧ endR ⟨o, c, none⟩ (bs.map (bw "common")) = ⟨o, c ++ bs, none⟩
  | [], c, _, _ => ⟨rfl, by rw [List.append_nil]; rfl⟩
  | b :: bs, c, h, l => by
    rw [List.length_cons] at l
    have e := step_com (o := o) (c := c) (h b List.mem_cons_self) (by omega)
    obtain ⟨h1, h2⟩ := run_com (o := o) (bs := bs) (c := c ++ [b]) (fun x hx => h x (List.mem_cons_of_mem _ hx)) (by rw [List.length_append]; show _ + 1 + _ ≤ _; omega)
    rw [List.map_cons, runR, endR, e]
    refine ⟨?_, ?_⟩
    · show ("ok" : Str) :: _ = _
      rw [h1, List.length_cons, List.replicate_succ]
    · rw [h2, List.append_assoc]
      rfl
theorem run_bounds {o c : List Bd} (ho : ∀ b ∈ o, b.ok) (hc : ∀ b ∈ c, b.ok) (lo : o.length ≤ 4) (lc : c.length ≤ 4) : runR pst0 (o.map (bw "own") ++ c.map (bw "common")) = List.replicate (o.length + c.length) ("ok" : Str) ∧ endR pst0 (o.map (bw "own") ++ c.map (bw "common")) = ⟨o, c, none⟩ := by
  obtain ⟨h1, h2⟩ := run_own (c := []) (bs := o) (o := []) ho (by show 0 + _ ≤ _; omega)
  obtain ⟨h3, h4⟩ := run_com (o := o) (bs := c) (c := []) hc (by show 0 + _ ≤ _; omega)
  have h1 : runR pst0 (o.map (bw "own")) = List.replicate o.length ("ok" : Str) := h1
  have h2 : endR pst0 (o.map (bw "own")) = ⟨o, [], none⟩ := h2
  rw [runR_app, endR_app, h1, h2, h3, h4, List.replicate_append_replicate]
  exact ⟨rfl, rfl⟩
theorem run_snoc {s : PSt} {wss : List (List Str)} {ws : List Str} : runR s (wss ++ [ws]) = runR s wss ++ [(stepR (endR s wss) ws).1.txt] := by rw [runR_app]; rfl
theorem end_snoc {s : PSt} {wss : List (List Str)} {ws : List Str} : endR s (wss ++ [ws]) = (stepR (endR s wss) ws).2 := by rw [endR_app]; rfl
/-! the items of a text: each of one row with words, or of a row without words and one with -/
structure ItemOk (x : Str) (ws : List Str) : Prop where
  ex : ∃ pcs : List Str, TL.tl x = TL.joinL [10] (pcs.map TL.tl) ∧ (∀ p ∈ pcs, ∀ c ∈ TL.tl p, PySem.Unicode.isLineBreak c = false) ∧ rowsW pcs = [ws] ∧ (∀ p, pcs.getLast? = some p → TL.tl p ≠ []) ∧ pcs ≠ [] ∧ pcs.length ≤ 2 ∧ (∀ p ∈ pcs, p.length ≤ 200 ∧ ∀ w ∈ wordsS p, w.length ≤ 600)
  len : x.length ≤ 400
theorem joinL_app (S : List Nat) : ∀ {a b : List (List Nat)}, a ≠ [] → b ≠ [] → TL.joinL S (a ++ b) = TL.joinL S a ++ (S ++ TL.joinL S b)
  | [], _, h, _ => absurd rfl h
  | [p], [], _, h => absurd rfl h
  | [p], q :: r, _, _ => rfl
  | p :: q :: a, b, _, hb => by
    have ih := joinL_app S (a := q :: a) (b := b) (by simp) hb
    show p ++ (S ++ TL.joinL S (q :: a ++ b)) = (p ++ (S ++ TL.joinL S (q :: a))) ++ (S ++ TL.joinL S b)
    rw [ih]
    simp only [List.append_assoc]
theorem rowsW_app : ∀ (a b : List Str), rowsW (a ++ b) = rowsW a ++ rowsW b
  | [], _ => rfl
  | x :: a, b => by
    rw [List.cons_append, rowsW, rowsW, rowsW_app]
    split <;> simp
theorem items_pcs : ∀ {xs : List Str} {wss : List (List Str)}, Paired ItemOk xs wss → ∃ pcs : List Str, TL.joinL [10] (xs.map TL.tl) = TL.joinL [10] (pcs.map TL.tl) ∧ (∀ p ∈ pcs, ∀ c ∈ TL.tl p, PySem.Unicode.isLineBreak c = false) ∧ rowsW pcs = wss ∧ (∀ p, pcs.getLast? = some p → TL.tl p ≠ []) ∧ (xs ≠ [] → pcs ≠ []) ∧ pcs.length ≤ 2 * xs.length ∧ (∀ p ∈ pcs, p.length ≤ 200 ∧ ∀ w ∈ wordsS p, w.length ≤ 600)
  | [], [], .nil => ⟨[], rfl, fun p h => (by cases h), rfl, fun p h => (by cases h), id, Nat.zero_le _, fun p h => (by cases h)⟩
  | [x], [ws], .cons h .nil => by
    obtain ⟨pcs, h1, h2, h3, h4, h5, h6, h7⟩ := h.ex
    exact ⟨pcs, h1, h2, h3, h4, fun _ => h5, h6, h7⟩
  | x :: y :: xs, ws :: wss, .cons h hr => by
    obtain ⟨pcs, h1, h2, h3, h4, h5, h6, h7⟩ := h.ex
    obtain ⟨pc2, g1, g2, g3, g4, g5, g6, g7⟩ := items_pcs hr
    have g5 := g5 (by simp)
    refine ⟨pcs ++ pc2, ?_, fun p hp => (List.mem_append.mp hp).elim (h2 p) (g2 p), by rw [rowsW_app, h3, g3]; rfl, fun p hp => ?_, fun _ z => h5 (List.append_eq_nil_iff.mp z).1, by rw [List.length_append]; simp only [List.length_cons] at g6 ⊢; omega, fun p hp => (List.mem_append.mp hp).elim (h7 p) (g7 p)⟩
    · rw [List.map_append, joinL_app [10] (by simpa using h5) (by simpa using g5), ← h1, ← g1]
      rfl
    · rw [List.getLast?_append] at hp
      cases e : pc2.getLast? with
      | none => exact absurd (List.getLast?_eq_none_iff.mp e) g5
      | some z =>
        rw [e] at hp
        exact g4 p (by rw [e]; exact hp)
theorem play_items {xs : List Str} {wss : List (List Str)} (h : Paired ItemOk xs wss) (hn : xs.length ≤ 100) : (Txt.join ("\n" : Str) xs).length ≤ 60000 ∧ (∀ row ∈ Txt.lines (Txt.join ("\n" : Str) xs), row.length ≤ 30000 ∧ ∀ w ∈ wordsS row, w.length ≤ 600) ∧ (Txt.lines (Txt.join ("\n" : Str) xs)).length ≤ 40000 ∧ rowsW (Txt.lines (Txt.join ("\n" : Str) xs)) = wss := by
  obtain ⟨pcs, h1, h2, h3, h4, h5, h6, h7⟩ := items_pcs h
  have l10 : TL.tl ("\n" : Str) = [10] := by decide +kernel
  have e : Txt.join ("\n" : Str) xs = Txt.join ("\n" : Str) pcs := TL.ext_tl (by rw [TL.join_eq, TL.join_eq, TL.tl_join, TL.tl_join, l10, h1])
  have el : Txt.lines (Txt.join ("\n" : Str) xs) = pcs := by rw [e]; exact lines_join h2 h4
  rw [el]
  refine ⟨?_, fun row hr => ⟨by have := (h7 row hr).1; omega, (h7 row hr).2⟩, by omega, h3⟩
  rw [e, TL.len_tl, TL.join_eq, TL.tl_join, l10]
  have z := joinL_len [10] (pcs.map TL.tl)
  have sm := sum_le (fun y : Str => (TL.tl y).length) 200 pcs fun y hy => by
    rw [← TL.len_tl]
    exact (h7 y hy).1
  have sl : pcs.length * 200 ≤ 200 * 200 := Nat.mul_le_mul_right _ (by omega)
  rw [List.map_map, List.length_map] at z
  have sm : (pcs.map (List.length ∘ TL.tl)).sum ≤ pcs.length * 200 := sm
  have l1 : ([10] : List Nat).length = 1 := rfl
  rw [l1] at z
  omega
theorem paired_snoc {α β : Type} {R : α → β → Prop} {xs : List α} {ys : List β} {x : α} {y : β} (h : Paired R xs ys) (r : R x y) : Paired R (xs ++ [x]) (ys ++ [y]) := paired_app h (.cons r .nil)
/-! a refusal's name; a text of what a gate tells -/
def RKind12 (cs : Nat → Addr) (vs : List V) (H : Hp) (v : V) : Prop := ∃ a i fs, vs = [.ref a] ∧ 1 ≤ i ∧ i < 5 ∧ KEx H a (cs i) fs ∧ v = .str (refT i)
def RText12 (vs : List V) (H : Hp) (v : V) : Prop := ∃ p xs x, vs = [.ref p] ∧ H p = some (.tup xs) ∧ ShT xs x ∧ v = .str x
theorem shut_join {w : Str} {k : Nat} {o : Option Int} : Txt.join (" " : Str) ([("shut" : Str), w, intS (k : Nat), neverT o] : List Str) = shutT w k o := TL.ext_tl (by
  have l1 : TL.tl (" " : Str) = [32] := by decide +kernel
  have l2 : TL.tl ("shut " : Str) = TL.tl ("shut" : Str) ++ [32] := by decide +kernel
  unfold shutT
  rw [TL.join_eq, TL.tl_join]
  simp only [List.map_cons, List.map_nil, TL.joinL, tl_app, l1, l2]
  show _ = (((((([] : List Nat) ++ _) ++ _) ++ _) ++ _) ++ _) ++ _
  simp only [List.nil_append, List.append_assoc])
section
variable {P : Program} {w : World} {K : PySem.W.Frag} {mg : Str → Option Value} {base : Heap} {cG : Addr} {cs : Nat → Addr} {A : GA}
theorem cal_Lkind {f : Addr} {fd : FuncData} (T : Blt mg) (G : Gcl mg cG cs A.J A.W) (R : Kdr K cG cs 6) (F : C8.Def K mg "_law_kind" s_Lkind f fd) (b : Binds K fd ["_law_error"] []) : C8.Cal P w K mg base 1 "_law_kind" (spF (RKind12 cs)) [] := by
  refine calF F b sc_Lkind (fun vs H v h => ?_) (fun cdv A' outer s H vs v E hr h => ?_)
  · obtain ⟨a, i, fs, rfl, _⟩ := h
    rfl
  · obtain ⟨a, i, fs, rfl, h1, hi, hx, rfl⟩ := h
    refine ⟨_, (pss_cons (ps_set (i := 1) sc_Lkind.nd rfl (Or.inl rfl) (pe_lst (pa_cons (pe_callB call_isK (by rfl) T.b_isinstance boot_isinstance (pa_cons (pv 0) (pa_cons (pe_glob (v := .ref (cs 1)) rfl G.c_NoName rfl) pa_nil))) (pa_cons (pe_callB call_isK (by rfl) T.b_isinstance boot_isinstance (pa_cons (pv 0) (pa_cons (pe_glob (v := .ref (cs 2)) rfl G.c_NoMoment rfl) pa_nil))) (pa_cons (pe_callB call_isK (by rfl) T.b_isinstance boot_isinstance (pa_cons (pv 0) (pa_cons (pe_glob (v := .ref (cs 3)) rfl G.c_Late rfl) pa_nil))) pa_nil)))))
  (pss_cons (ps_set (i := 1) sc_Lkind.nd rfl (Or.inl rfl) (pe_op op_cat (pv 1) (pe_lst (pa_cons (pe_callB call_isK (by rfl) T.b_isinstance boot_isinstance (pa_cons (pv 0) (pa_cons (pe_glob (v := .ref (cs 4)) rfl G.c_NoCost rfl) pa_nil))) (pa_cons pe_bl pa_nil)))))
  (pss_one (ps_ret (pe_op op_add_str pe_str (pe_ix ix_list (pe_lst (pa_cons pe_str (pa_cons pe_str (pa_cons pe_str (pa_cons pe_str (pa_cons pe_str pa_nil)))))) (pe_bm PySem.F.plainAttrs_list PySem.F.slot_list_index PySem.F.type_list_index mt_index (pv 1) (pa_cons pe_bl pa_nil)) (fun _ _ => rfl))))))), ?_⟩
    have isi : ∀ (σ : L2.St) (H1 : Hp) (j : Nat), j < 6 → Ex H H1 → σ[0]? = some (some (.ref a)) → Ev (tCB (rIsK K) (tCons (tVar 0) (tCons (tC (.ref (cs j))) tNil))) σ H1 (.bl (decide (i = j))) := fun σ H1 j hj e h0 => ev_isK (ev_var h0) ev_c (R.ex i (by omega)) (hx.mono e) (.own _) (R.kk i j (by omega) hj)
    refine rt_seqL (xs := [.bl (decide (i = 1)), .bl (decide (i = 2)), .bl (decide (i = 3))]) (el_lst (ea_cons (isi _ _ 1 (by decide) (Ex.refl _) rfl) (ea_cons (isi _ _ 2 (by decide) (Ex.refl _) rfl) (ea_cons (isi _ _ 3 (by decide) (Ex.refl _) rfl) ea_nil))) (by simp only [List.length_cons, List.length_nil]; omega)) fun p H1 e hp => ?_
    refine rt_seqL (xs := [.bl (decide (i = 1)), .bl (decide (i = 2)), .bl (decide (i = 3)), .bl (decide (i = 4)), .bl true]) (el_catN (ys := [.bl (decide (i = 4)), .bl true]) (ev_var rfl) (el_lst (ea_cons (isi _ _ 4 (by decide) e rfl) (ea_cons ev_c ea_nil)) (show 2 ≤ 100000 by decide)) hp (show 3 + 2 ≤ 100000 by decide)) fun p2 H2 e2 hp2 => ?_
    have cases4 : i = 1 ∨ i = 2 ∨ i = 3 ∨ i = 4 := by omega
    have nms : ∀ (j : Nat) (x : Str), (([.bl (decide (i = 1)), .bl (decide (i = 2)), .bl (decide (i = 3)), .bl (decide (i = 4)), .bl true] : List V)[j]? = some (.bl true)) → (∀ m z', m < j → ([.bl (decide (i = 1)), .bl (decide (i = 2)), .bl (decide (i = 3)), .bl (decide (i = 4)), .bl true] : List V)[m]? = some z' → eqV z' (.bl true) = false) → atI [V.str "NoName", V.str "NoMoment", V.str "Late", V.str "NoCost", V.str "another"] (j : Nat) = some (V.str x) → ("refused: " : Str) ++ x = refT i → x.length ≤ 100 → Rt (tRet (tOp (fun x y H Q => ∃ i j : Str, x = .str i ∧ y = .str j ∧ i.length + j.length ≤ sizeLine ∧ Q (.str (i ++ j)) H) (tC (.str "refused: ")) (tOp (rIxL K) (tLst (tCons (tC (.str "NoName")) (tCons (tC (.str "NoMoment")) (tCons (tC (.str "Late")) (tCons (tC (.str "NoCost")) (tCons (tC (.str "another")) tNil)))))) (tBM K "list" (rIndex K) (tVar 1) (tCons (tC (.bl true)) tNil))))) [some (.ref a), some (.ref p2)] H2 (V.str (refT i)) := fun j x h1 h2 h4 ex xl => by
      have lx : ("refused: " : Str).length + x.length ≤ 100000 := by
        have : ("refused: " : Str).length = 9 := by decide +kernel
        omega
      exact rt_ret (ev_is (ev_addS ev_c (ev_ixN (K := K) (ea_cons ev_c (ea_cons ev_c (ea_cons ev_c (ea_cons ev_c (ea_cons ev_c ea_nil))))) (ev_idx (K := K) (σ := [some (.ref a), some (.ref p2)]) (ev_var rfl) (sq_of hp2) ev_c rfl rfl h1 rfl h2) (by simp only [List.length_cons, List.length_nil]; omega) h4) lx) (congrArg V.str ex))
    rcases cases4 with rfl | rfl | rfl | rfl
    · exact nms 0 "NoName" rfl (fun m z' h => absurd h (Nat.not_lt_zero _)) rfl (by decide +kernel) (by decide +kernel)
    · exact nms 1 "NoMoment" rfl (fun m z' h hm => by
        obtain rfl : m = 0 := by omega
        cases hm
        rfl) rfl (by decide +kernel) (by decide +kernel)
    · exact nms 2 "Late" rfl (fun m z' h hm => by
        have : m = 0 ∨ m = 1 := by omega
        rcases this with rfl | rfl <;> cases hm <;> rfl) rfl (by decide +kernel) (by decide +kernel)
    · exact nms 3 "NoCost" rfl (fun m z' h hm => by
        have : m = 0 ∨ m = 1 ∨ m = 2 := by omega
        rcases this with rfl | rfl | rfl <;> cases hm <;> rfl) rfl (by decide +kernel) (by decide +kernel)
theorem cal_Ltext {f : Addr} {fd : FuncData} (T : Blt mg) (F : C8.Def K mg "_law_text" s_Ltext f fd) (b : Binds K fd ["_law_found"] []) : C8.Cal P w K mg base 1 "_law_text" (spF RText12) [] := by
  refine calF F b sc_Ltext (fun vs H v h => ?_) (fun cdv A' outer s H vs v E hr h => ?_)
  · obtain ⟨p, xs, x, rfl, _⟩ := h
    rfl
  · obtain ⟨p, xs, x, rfl, hp, sh, rfl⟩ := h
    refine ⟨_, (pss_cons (ps_if (pt_cmpR op_eq (pe_callB call_len_seq (by rfl) T.b_len boot_len (pa_cons (pv 0) pa_nil)) pe_int (nomark _))
    (pss_one (ps_ret (pe_ix ix_tup (pv 0) pe_int (fun _ _ => rfl))))
    pss_nil)
  (pss_cons (ps_set (i := 1) sc_Ltext.nd rfl (Or.inl rfl) (pe_ifExp (pt_cmp (pc_isN (pe_ix ix_tup (pv 0) pe_int (fun _ _ => rfl)))) pe_str (pe_callTy call_str_int (by rfl) T.b_str boot_str (pa_cons (pe_ix ix_tup (pv 0) pe_int (fun _ _ => rfl)) pa_nil))))
  (pss_one (ps_ret (pe_join pe_str (pe_lst (pa_cons (pe_ix ix_tup (pv 0) pe_int (fun _ _ => rfl)) (pa_cons (pe_ix ix_tup (pv 0) pe_int (fun _ _ => rfl)) (pa_cons (pe_callTy call_str_int (by rfl) T.b_str boot_str (pa_cons (pe_ix ix_tup (pv 0) pe_int (fun _ _ => rfl)) pa_nil)) (pa_cons (pv 1) pa_nil)))))))))), ?_⟩
    rcases sh with ⟨rfl, rfl⟩ | ⟨wd, k, o, rfl, hw, hk, ho, rfl⟩
    · have hT : SqT K H p [.str "open"] := st_of hp
      refine rt_ifseq (b := true) (et_is (et_test (ev_op (ev_lenQ (K := K) (ev_var (v := .ref p) rfl) (.inr hT)) ev_c (rv_eq rfl))) rfl) (fun _ => ?_) fun z => by cases z
      exact rt_ret (ev_ixT (ev_var rfl) ev_c hT rfl)
    · have hT : SqT K H p (shutL wd k o) := st_of hp
      have wl : wd.length ≤ 6 := by rcases hw with rfl | rfl <;> decide +kernel
      refine rt_ifseq (b := false) (et_is (et_test (ev_op (ev_lenQ (K := K) (ev_var (v := .ref p) rfl) (.inr hT)) ev_c (rv_eq rfl))) rfl) (fun z => by cases z) fun _ => ?_
      have i3 : atI (shutL wd k o) 3 = some (opV o) := rfl
      have i2 : atI (shutL wd k o) 2 = some (.int (k : Nat)) := rfl
      have i1 : atI (shutL wd k o) 1 = some (.str wd) := rfl
      have i0 : atI (shutL wd k o) 0 = some (.str "shut") := rfl
      have nl : (neverT o).length ≤ 16 := by
        cases o with
        | none => show ("never" : Str).length ≤ 16; decide +kernel
        | some i => exact (intS_word (ho i rfl).1 (by have := (ho i rfl).2; omega)).2.2
      refine rt_seq (nx_asg (v := .str (neverT o)) ?_) ?_
      · cases o with
        | none => exact ev_if (b := true) (et_B (ev_isN (ev_ixT (v := .non) (ev_var rfl) ev_c hT i3))) (fun _ => ev_c) fun z => by cases z
        | some i => exact ev_if (b := false) (et_B (ev_isN (ev_ixT (v := .int i) (ev_var rfl) ev_c hT i3))) (fun z => by cases z) fun _ => ev_strI (ev_ixT (v := .int i) (ev_var rfl) ev_c hT i3) (log_14 (ho i rfl).1 (ho i rfl).2)
      · have kl := (intS_word (i := (k : Nat)) (by omega) (by omega)).2.2
        have l1 : (" " : Str).length = 1 := by decide +kernel
        have l4 : ("shut" : Str).length = 4 := by decide +kernel
        rw [← shut_join]
        refine rt_ret (ev_joinL (K := K) ev_c (el_lst (ea_cons (ev_ixT (ev_var rfl) ev_c hT i0) (ea_cons (ev_ixT (ev_var rfl) ev_c hT i1) (ea_cons (ev_strI (ev_ixT (ev_var rfl) ev_c hT i2) (log_14 (by omega) (by omega))) (ea_cons (ev_var rfl) ea_nil)))) (show 4 ≤ 100000 by decide)) ?_)
        simp only [List.map_cons, List.map_nil, List.sum_cons, List.sum_nil, List.length_cons, List.length_nil, l1, l4]
        omega
end
/-! what a row asks -/
theorem evw_two {K : PySem.W.Frag} {t1 t2 tb : TE} {σ : L2.St} {H : Hp} {xs ys : List V} {i : Int} {W : V → Hp → Prop} (h1 : EvL t1 σ H xs) (h2 : EvL t2 σ H ys) (hb : Ev tb σ H (.int i)) (hi : i = 0 ∨ i = 1) (hw : ∀ p H2, H p = none → H2 p = some (.lst (if i = 0 then xs else ys)) → W (.ref p) H2) : EvW (tOp (rIxL K) (tLst (tCons t1 (tCons t2 tNil))) tb) σ H W := fun H1 e Q q => by
  refine h1 H1 e _ fun p1 H2 n1 e2 hp1 => h2 H2 (e.trans e2) _ fun p2 H3 n2 e3 hp2 => ⟨(by show 2 ≤ sizeLine; decide), fun p np => ?_⟩
  have e4 := Ex.new (o := .lst [.ref p1, .ref p2]) np
  refine hb (upd H3 p (.lst [.ref p1, .ref p2])) (((e.trans e2).trans e3).trans e4) _ fun H5 e5 => ?_
  have hp : H5 p = some (.lst [.ref p1, .ref p2]) := e5 _ _ upd_same
  have e25 := (e3.trans e4).trans e5
  rcases hi with rfl | rfl
  · exact ⟨p, _, 0, .ref p1, rfl, rfl, sq_of hp, rfl, q _ H5 (((e2.trans e3).trans e4).trans e5) (hw p1 H5 (fresh_back e n1) (e25 _ _ hp1))⟩
  · exact ⟨p, _, 1, .ref p2, rfl, rfl, sq_of hp, rfl, q _ H5 (((e2.trans e3).trans e4).trans e5) (hw p2 H5 (fresh_back (e.trans e2) n2) ((e4.trans e5) _ _ hp2))⟩
theorem evw_lstF {te : TE} {σ : L2.St} {H : Hp} {xs : List V} (h : EvL te σ H xs) : EvW te σ H (fun v H1 => ∃ p, v = .ref p ∧ H p = none ∧ H1 p = some (.lst xs)) := fun H1 e Q q => h H1 e _ fun p H2 np e2 hp => q _ H2 e2 ⟨p, rfl, fresh_back e np, hp⟩
theorem nxp_next {P : L2.St → Prop} {σ : L2.St} {H : Hp} (p : P σ) : NxP tNext σ H P := nxp_of nx_next p
theorem nxp_asg {P : L2.St → Prop} {te : TE} {σ : L2.St} {H : Hp} {i : Nat} {v : V} (h : Ev te σ H v) (p : P (σ.set i (some v))) : NxP (tAsg te (gName i)) σ H P := nxp_of (nx_asg h) p
def RRow12 (vs : List V) (H : Hp) (W : V → Hp → Prop) : Prop := ∃ c mr mo sc Hb, vs = [.int c, .int mr, .int mo, .int sc] ∧ 0 ≤ c ∧ 0 ≤ mr ∧ 0 ≤ mo ∧ mo ≤ 1000000000000 ∧ 1 ≤ sc ∧ sc ≤ 40000000 ∧ Ex Hb H ∧ W = fun v H2 => ∃ (p : Addr) (a : Ask), v = .ref p ∧ Hb p = none ∧ a.ok ∧ H2 p = some (.lst a.vs)
section
variable {P : Program} {w : World} {K : PySem.W.Frag} {mg : Str → Option Value} {base : Heap} {cG : Addr} {cs : Nat → Addr} {A : GA}
theorem cal_Lrow {f : Addr} {fd : FuncData} (T : Blt mg) (c_Lcost : C8.Cal P w K mg base 1 "_law_cost" (spF (R2' (fun c sc => 0 ≤ c ∧ 1 ≤ sc ∧ sc ≤ 40000000) costV)) []) (F : C8.Def K mg "_law_row" s_Lrow f fd) (b : Binds K fd ["_law_cell_here", "_law_more", "_law_moment", "_law_scale_here"] []) : C8.Cal P w K mg base 2 "_law_row" (spW RRow12) [] := by
  refine calW F b sc_Lrow (fun vs H v h => ?_) (fun cdv A' outer s H vs W E hr h => ?_)
  · obtain ⟨c, mr, mo, sc, Hb, rfl, _⟩ := h
    rfl
  · obtain ⟨c, mr, mo, sc, Hb, rfl, h0, hm, m0, m1, s1, s2, eb, rfl⟩ := h
    refine ⟨_, (pss_cons (ps_if (pt_cmpR op_eq (pe_op op_mod (pv 0) pe_int) pe_int (nomark _))
    (pss_one (ps_ret (pe_ix ix_list (pe_lst (pa_cons (pe_lst (pa_cons pe_str pa_nil)) (pa_cons (pe_lst (pa_cons pe_str pa_nil)) pa_nil))) (pe_op op_mod (pe_op op_fdiv (pv 0) pe_int) pe_int) (fun _ _ => rfl))))
    pss_nil)
  (pss_cons (ps_set (i := 4) sc_Lrow.nd rfl (Or.inl rfl) (pe_ix ix_list (pe_lst (pa_cons pe_str (pa_cons pe_str (pa_cons pe_str (pa_cons pe_str pa_nil))))) (pe_op op_mod (pe_op op_fdiv (pv 0) pe_int) pe_int) (fun _ _ => rfl)))
  (pss_cons (ps_set (i := 5) sc_Lrow.nd rfl (Or.inl rfl) (C8.pe_c c_Lcost hr (by decide) rfl (pa_cons (pv 1) (pa_cons (pv 3) pa_nil))))
  (pss_cons (ps_if (pt_cmpR op_eq (pe_op op_mod (pe_op op_fdiv (pv 0) pe_int) pe_int) pe_int (nomark _))
    (pss_one (ps_set (i := 4) sc_Lrow.nd rfl (Or.inl rfl) (pe_ix ix_list (pe_lst (pa_cons pe_str (pa_cons pe_str (pa_cons pe_str (pa_cons pe_str pa_nil))))) (pe_op op_mod (pv 1) pe_int) (fun _ _ => rfl))))
    pss_nil)
  (pss_cons (ps_if (pt_cmpR op_eq (pe_op op_mod (pe_op op_fdiv (pv 0) pe_int) pe_int) pe_int (nomark _))
    (pss_one (ps_set (i := 5) sc_Lrow.nd rfl (Or.inl rfl) (pe_ix ix_list (pe_lst (pa_cons pe_int (pa_cons (pe_op op_add (pe_op op_pow pe_int pe_int) pe_int) pa_nil))) (pe_op op_mod (pv 1) pe_int) (fun _ _ => rfl))))
    pss_nil)
  (pss_cons (ps_if (pt_cmpR op_eq (pe_op op_mod (pe_op op_fdiv (pv 0) pe_int) pe_int) pe_int (nomark _))
    (pss_one (ps_set (i := 2) sc_Lrow.nd rfl (Or.inl rfl) (pe_ix ix_list (pe_lst (pa_cons (pe_op op_add (pe_op op_pow pe_int pe_int) pe_int) (pa_cons (pe_callB (call_max2 rfl) (by rfl) T.b_max boot_max (pa_cons pe_int (pa_cons (pe_op op_sub (pe_op op_sub (pv 2) pe_int) (pe_op op_mod (pv 1) pe_int)) pa_nil))) pa_nil))) (pe_op op_mod (pe_op op_fdiv (pv 1) pe_int) pe_int) (fun _ _ => rfl))))
    pss_nil)
  (pss_one (ps_ret (pe_lst (pa_cons (pe_ix ix_list (pe_lst (pa_cons pe_str (pa_cons pe_str (pa_cons pe_str pa_nil)))) (pe_op op_mod (pe_op op_fdiv (pv 0) pe_int) pe_int) (fun _ _ => rfl)) (pa_cons (pv 4) (pa_cons (pv 2) (pa_cons (pv 5) pa_nil))))))))))))), ?_⟩
    have dm : ∀ {σ : L2.St} {d m : Int}, 0 < d → 0 < m → d < 100000 → m < 100000 → σ[0]? = some (some (.int c)) → Ev (tOp (rI (fun _ j => 0 < j) fun i j => V.int (i % j)) (tOp (rI CDiv fun i j => V.int (i / j)) (tVar 0) (tC (.int d))) (tC (.int m))) σ H (.int (c / d % m)) := fun hd hm' h3 h4 h => ev_op (ev_op (ev_var h) ev_c (rv_I ⟨by omega, by omega⟩)) ev_c (rv_I hm')
    refine rtw_ifseq (b := decide (c % 9 = 0)) (et_is (et_test (ev_op (ev_op (ev_var (v := .int c) rfl) ev_c (rv_I (by decide))) ev_c (rv_eq rfl))) (by simp)) (fun hb => ?_) fun hb => ?_
    · refine rtw_ret (evw_two (i := c / 9 % 2) (xs := [.str "names"]) (ys := [.str "kept"]) (el_lst (ea_cons ev_c ea_nil) (show 1 ≤ 100000 by decide)) (el_lst (ea_cons ev_c ea_nil) (show 1 ≤ 100000 by decide)) (dm (by decide) (by decide) (by decide) (by decide) rfl) (by omega) fun p H2 np hp => ?_)
      by_cases z : c / 9 % 2 = 0
      · rw [if_pos z] at hp
        exact ⟨p, .tell "names", rfl, fresh_back eb np, .inl rfl, hp⟩
      · rw [if_neg z] at hp
        exact ⟨p, .tell "kept", rfl, fresh_back eb np, .inr rfl, hp⟩
    · obtain ⟨n0, hn0, an0⟩ := atI_str (ws := (["a", "bb", "abcdefgh", "z"] : List Str)) (i := c / 9 % 4) (n := 4) (by omega) (by omega) rfl
      refine rtw_seq (nx_asg (v := .str n0) (ev_ixN (K := K) (ea_cons ev_c (ea_cons ev_c (ea_cons ev_c (ea_cons ev_c ea_nil)))) (dm (by decide) (by decide) (by decide) (by decide) rfl) (show 4 ≤ 100000 by decide) an0)) ?_
      have nm0 : n0 ∈ nms12 := by
        simp only [List.mem_cons, List.not_mem_nil, or_false] at hn0
        rcases hn0 with rfl | rfl | rfl | rfl <;> decide +kernel
      have co := cost_in (c := mr) hm s1 s2
      refine rtw_seq (nx_asg (v := .int (costV mr sc)) (ev_callF (ea_cons (ev_var rfl) (ea_cons (ev_var rfl) ea_nil)) fun H1 e1 => ⟨mr, sc, rfl, ⟨hm, s1, s2⟩, rfl⟩)) ?_
      generalize costV mr sc = k0 at co
      refine rtw_seqP (P := fun σ => ∃ n, n ∈ nms12 ∧ σ = [some (.int c), some (.int mr), some (.int mo), some (.int sc), some (.str n), some (.int k0)]) (nxp_if (b := decide (c / 36 % 12 = 1)) (et_is (et_test (ev_op (dm (by decide) (by decide) (by decide) (by decide) rfl) ev_c (rv_eq rfl))) (by simp)) (fun _ => ?_) fun _ => nxp_next ⟨n0, nm0, rfl⟩) fun σ ⟨n, nm, hσ⟩ => ?_
      · obtain ⟨n1, hn1, an1⟩ := atI_str (ws := (["A", "abcdefghi", "a1", "-"] : List Str)) (i := mr % 4) (n := 4) (by omega) (by omega) rfl
        refine nxp_asg (v := .str n1) (ev_ixN (K := K) (ea_cons ev_c (ea_cons ev_c (ea_cons ev_c (ea_cons ev_c ea_nil)))) (ev_op (ev_var rfl) ev_c (rv_I (by decide))) (show 4 ≤ 100000 by decide) an1) ⟨n1, ?_, rfl⟩
        simp only [List.mem_cons, List.not_mem_nil, or_false] at hn1
        rcases hn1 with rfl | rfl | rfl | rfl <;> decide +kernel
      subst hσ
      refine rtw_seqP (P := fun σ => ∃ k, 0 ≤ k ∧ k ≤ 1000000001 ∧ σ = [some (.int c), some (.int mr), some (.int mo), some (.int sc), some (.str n), some (.int k)]) (nxp_if (b := decide (c / 36 % 12 = 2)) (et_is (et_test (ev_op (dm (by decide) (by decide) (by decide) (by decide) rfl) ev_c (rv_eq rfl))) (by simp)) (fun _ => ?_) fun _ => nxp_next ⟨k0, by omega, by omega, rfl⟩) fun σ ⟨k, k1, k2, hσ⟩ => ?_
      · obtain ⟨k, ak, k1, k2⟩ : ∃ k : Int, atI ([.int 0, .int (1000000000 + 1)] : List V) (mr % 2) = some (.int k) ∧ 0 ≤ k ∧ k ≤ 1000000001 := by
          have : mr % 2 = 0 ∨ mr % 2 = 1 := by omega
          rcases this with z | z <;> rw [z]
          · exact ⟨0, rfl, by decide, by decide⟩
          · exact ⟨_, rfl, by decide, by decide⟩
        exact nxp_asg (v := .int k) (ev_ixN (K := K) (ea_cons ev_c (ea_cons (ev_op (ev_op (z := .int 1000000000) ev_c ev_c (rv_I ⟨by decide, by decide, by decide⟩)) ev_c rv_I0) ea_nil)) (ev_op (ev_var rfl) ev_c (rv_I (by decide))) (show 2 ≤ 100000 by decide) ak) ⟨k, k1, k2, rfl⟩
      subst hσ
      refine rtw_seqP (P := fun σ => ∃ t, 0 ≤ t ∧ t ≤ 1000000000001 ∧ σ = [some (.int c), some (.int mr), some (.int t), some (.int sc), some (.str n), some (.int k)]) (nxp_if (b := decide (c / 36 % 12 = 3)) (et_is (et_test (ev_op (dm (by decide) (by decide) (by decide) (by decide) rfl) ev_c (rv_eq rfl))) (by simp)) (fun _ => ?_) fun _ => nxp_next ⟨mo, by omega, by omega, rfl⟩) fun σ ⟨t, t1, t2, hσ⟩ => ?_
      · obtain ⟨t, at_, t1, t2⟩ : ∃ t : Int, atI ([.int (1000000000000 + 1), .int (max 0 (mo - 1 - mr % 5))] : List V) (mr / 2 % 2) = some (.int t) ∧ 0 ≤ t ∧ t ≤ 1000000000001 := by
          have : mr / 2 % 2 = 0 ∨ mr / 2 % 2 = 1 := by omega
          rcases this with z | z <;> rw [z]
          · exact ⟨_, rfl, by decide, by decide⟩
          · exact ⟨_, rfl, by omega, by omega⟩
        exact nxp_asg (v := .int t) (ev_ixN (K := K) (ea_cons (ev_op (ev_op (z := .int 1000000000000) ev_c ev_c (rv_I ⟨by decide, by decide, by decide⟩)) ev_c rv_I0) (ea_cons (ev_max ev_c (ev_op (ev_op (ev_var rfl) ev_c rv_I0) (ev_op (ev_var rfl) ev_c (rv_I (by decide))) rv_I0)) ea_nil)) (ev_op (ev_op (ev_var rfl) ev_c (rv_I ⟨by decide, by decide⟩)) ev_c (rv_I (by decide))) (show 2 ≤ 100000 by decide) at_) ⟨t, t1, t2, rfl⟩
      subst hσ
      obtain ⟨wv, hwv, aw⟩ := atI_str (ws := (["ask", "visit", "visit"] : List Str)) (i := c / 432 % 3) (n := 3) (by omega) (by omega) rfl
      refine rtw_ret ((evw_lstF (el_lst (vs := [.str wv, .str n, .int t, .int k]) (ea_cons (ev_ixN (K := K) (ea_cons ev_c (ea_cons ev_c (ea_cons ev_c ea_nil))) (dm (by decide) (by decide) (by decide) (by decide) rfl) (show 3 ≤ 100000 by decide) aw) (ea_cons (ev_var rfl) (ea_cons (ev_var rfl) (ea_cons (ev_var rfl) ea_nil)))) (show 4 ≤ 100000 by decide))).imp fun v H2 _ ⟨p, ev, np, hp⟩ => ⟨p, .ask wv n t k, ev, fresh_back eb np, ⟨?_, nm, t1, t2, k1, k2⟩, hp⟩)
      simp only [List.mem_cons, List.not_mem_nil, or_false] at hwv
      rcases hwv with rfl | rfl | rfl
      · exact .inl rfl
      · exact .inr rfl
      · exact .inr rfl
end
/-! a row as it stands in the text -/
structure GW (w : Str) : Prop where
  cs : ∀ x ∈ TL.tl w, x ≠ 32 ∧ PySem.Unicode.isLineBreak x = false
  ne : TL.tl w ≠ []
  len : w.length ≤ 20
theorem gw_c {w : Str} (h : ((TL.tl w).all (fun x => decide (x ≠ 32) && !PySem.Unicode.isLineBreak x) && !(TL.tl w).isEmpty && decide (w.length ≤ 20)) = true) : GW w := by
  simp only [Bool.and_eq_true, decide_eq_true_eq, List.all_eq_true, Bool.not_eq_true'] at h
  obtain ⟨⟨h1, h2⟩, h3⟩ := h
  exact ⟨fun x hx => h1 x hx, fun z => (by rw [z] at h2; cases h2), h3⟩
theorem gw_int {i : Int} (h0 : 0 ≤ i) (h1 : i < 10000000000000000) : GW (intS i) := by
  obtain ⟨a, b, c⟩ := intS_word h0 h1
  exact ⟨a, b, by omega⟩
theorem gw_nm {n : Str} (h : n ∈ nms12) : GW n := gw_c (nms_all (p := fun w => (TL.tl w).all (fun x => decide (x ≠ 32) && !PySem.Unicode.isLineBreak x) && !(TL.tl w).isEmpty && decide (w.length ≤ 20)) (by decide +kernel) h)
theorem rep_ch (z : Str) (c : Nat) (h : TL.tl z = [c]) : ∀ n, TL.tl (repS z n) = List.replicate n c := fun n => by
  rw [repS_tl, h]
  induction n with
  | zero => rfl
  | succ n ih =>
    rw [List.replicate_succ, List.flatten_cons, ih, List.replicate_succ]
    rfl
theorem dig_zeros (l : List Nat) : ∀ n, NumText.digitsVal (List.replicate n 48 ++ l) = NumText.digitsVal l
  | 0 => rfl
  | n + 1 => by
    rw [List.replicate_succ, List.cons_append]
    exact dig_zeros l n
theorem tl0 : TL.tl ("0" : Str) = [48] := by decide +kernel
theorem tl32 : TL.tl (" " : Str) = [32] := by decide +kernel
theorem zeros_len {j : Nat} {i : Int} : (repS "0" j ++ intS i).length = j + (intS i).length := by
  rw [strLen_append, TL.len_tl (repS "0" j), rep_ch _ _ tl0, List.length_replicate]
theorem num_zeros {j : Nat} {i : Int} (hj : j ≤ 3) (h0 : 0 ≤ i) (h1 : i < 1000000000000) : numW (repS "0" j ++ intS i) = some i ∧ GW (repS "0" j ++ intS i) := by
  have t := intS_tl h0
  have l : (TL.numL i.toNat).length ≤ 13 := TL.numL_len (by decide) (by omega)
  have e : TL.tl (repS "0" j ++ intS i) = List.replicate j 48 ++ TL.numL i.toNat := by rw [tl_app, rep_ch _ _ tl0, t]
  have len : (repS "0" j ++ intS i).length ≤ 16 := by
    rw [TL.len_tl, e, List.length_append, List.length_replicate]
    omega
  have dg : ∀ c ∈ TL.tl (repS "0" j ++ intS i), 48 ≤ c ∧ c ≤ 57 := fun c hc => by
    rw [e] at hc
    rcases List.mem_append.mp hc with z | z
    · rw [List.eq_of_mem_replicate z]
      decide
    · exact TL.numL_digits _ c z
  refine ⟨?_, fun x hx => ?_, ?_, by omega⟩
  · unfold numW
    rw [if_pos ⟨len, List.all_eq_true.mpr fun c hc => isFig_dig (dg c hc)⟩, e, dig_zeros, TL.numL_val]
    exact congrArg some (Int.toNat_of_nonneg h0)
  · have z := dg x hx
    refine ⟨by omega, ?_⟩
    have all : (List.range 10).all (fun d => !PySem.Unicode.isLineBreak (48 + d)) = true := by decide +kernel
    have y := List.all_eq_true.mp all (x - 48) (List.mem_range.mpr (by omega))
    rw [show 48 + (x - 48) = x by omega] at y
    simpa using y
  · rw [e]
    exact fun z => TL.numL_ne _ (List.append_eq_nil_iff.mp z).2
def rowX (p q r : Nat) (ws : List Str) : Str := (repS " " p ++ Txt.join (repS " " q) ws) ++ repS " " r
theorem rowX_tl (p q r : Nat) (ws : List Str) : TL.tl (rowX p q r ws) = List.replicate p 32 ++ (TL.joinL (List.replicate q 32) (ws.map TL.tl) ++ List.replicate r 32) := by
  unfold rowX
  rw [tl_app, tl_app, rep_ch _ _ tl32, rep_ch _ _ tl32, TL.join_eq, TL.tl_join, rep_ch _ _ tl32, List.append_assoc]
structure RowG (x : Str) (ws : List Str) : Prop where
  words : wordsS x = ws
  lb : ∀ c ∈ TL.tl x, PySem.Unicode.isLineBreak c = false
  len : x.length ≤ 150
theorem rowX_ok {p q r : Nat} {ws : List Str} (hp : p ≤ 2) (hq : q = 1 ∨ q = 2) (hr : r ≤ 1) (hw : ∀ w ∈ ws, GW w) (hn : ws.length ≤ 4) : RowG (rowX p q r ws) ws := by
  refine ⟨wordsS_is ?_, fun c hc => ?_, ?_⟩
  · rw [rowX_tl, wd_blanks]
    obtain ⟨b, rfl⟩ : ∃ b, q = b + 1 := ⟨q - 1, by omega⟩
    refine wd_join _ b r fun w hw' => ?_
    obtain ⟨y, hy, rfl⟩ := List.mem_map.mp hw'
    exact ⟨fun z => ((hw y hy).cs _ z).1 rfl, (hw y hy).ne⟩
  · have b32 : PySem.Unicode.isLineBreak 32 = false := by decide +kernel
    rw [rowX_tl] at hc
    rcases List.mem_append.mp hc with z | z
    · rw [List.eq_of_mem_replicate z]
      exact b32
    · rcases List.mem_append.mp z with z | z
      · rcases joinL_mem z with y | ⟨l, hl, y⟩
        · rw [List.eq_of_mem_replicate y]
          exact b32
        · obtain ⟨v, hv, rfl⟩ := List.mem_map.mp hl
          exact ((hw v hv).cs c y).2
      · rw [List.eq_of_mem_replicate z]
        exact b32
  · rw [TL.len_tl, rowX_tl, List.length_append, List.length_append, List.length_replicate, List.length_replicate]
    have z := joinL_len (List.replicate q 32) (ws.map TL.tl)
    have sm := sum_le (fun y : Str => (TL.tl y).length) 20 ws fun y hy => by
      rw [← TL.len_tl]
      exact (hw y hy).len
    rw [List.map_map, List.length_map, List.length_replicate] at z
    have sm : (ws.map (List.length ∘ TL.tl)).sum ≤ ws.length * 20 := sm
    have q2 : ws.length * q ≤ 4 * 2 := Nat.mul_le_mul hn (by omega)
    omega
theorem word_le {x w : Str} {ws : List Str} (h : RowG x ws) (hg : ∀ w ∈ ws, GW w) (hw : w ∈ wordsS x) : w.length ≤ 600 := by
  rw [h.words] at hw
  have := (hg w hw).len
  omega
theorem item_one {x : Str} {ws : List Str} (h : RowG x ws) (hg : ∀ w ∈ ws, GW w) (ne : ws ≠ []) : ItemOk x ws := by
  have l := h.len
  refine ⟨⟨[x], rfl, fun p hp c hc => ?_, ?_, fun p hp => ?_, by simp, by simp, fun p hp => ?_⟩, by omega⟩
  · rw [List.mem_singleton.mp hp] at hc
    exact h.lb c hc
  · rw [rowsW, if_neg (by rw [h.words]; exact ne), h.words]
    rfl
  · have hp : some x = some p := hp
    injection hp with hp
    rw [← hp]
    exact ne_of_words (by rw [h.words]; exact ne)
  · rw [List.mem_singleton.mp hp]
    exact ⟨by omega, fun w hw => word_le h hg hw⟩
theorem item_two {b y x : Str} {ws : List Str} (hb : b = "" ∨ b = "   ") (h : RowG x ws) (hg : ∀ w ∈ ws, GW w) (ne : ws ≠ []) (hy : TL.tl y = TL.tl b ++ 10 :: TL.tl x) : ItemOk y ws := by
  have l := h.len
  have bok : wordsS b = [] ∧ (∀ c ∈ TL.tl b, PySem.Unicode.isLineBreak c = false) ∧ b.length ≤ 3 := by
    rcases hb with rfl | rfl
    · exact ⟨by decide +kernel, fun c hc => (by rw [show TL.tl ("" : Str) = [] by decide +kernel] at hc; cases hc), by decide +kernel⟩
    · refine ⟨by decide +kernel, fun c hc => ?_, by decide +kernel⟩
      rw [show TL.tl ("   " : Str) = [32, 32, 32] by decide +kernel] at hc
      have : c = 32 := by simpa using hc
      rw [this]
      decide +kernel
  obtain ⟨b1, b2, b3⟩ := bok
  refine ⟨⟨[b, x], hy, fun p hp c hc => ?_, ?_, fun p hp => ?_, by simp, by simp, fun p hp => ?_⟩, ?_⟩
  · simp only [List.mem_cons, List.not_mem_nil, or_false] at hp
    rcases hp with rfl | rfl
    · exact b2 c hc
    · exact h.lb c hc
  · rw [rowsW, if_pos b1, rowsW, if_neg (by rw [h.words]; exact ne), h.words]
    rfl
  · have hp : some x = some p := hp
    injection hp with hp
    rw [← hp]
    exact ne_of_words (by rw [h.words]; exact ne)
  · simp only [List.mem_cons, List.not_mem_nil, or_false] at hp
    rcases hp with rfl | rfl
    · exact ⟨by omega, fun w hw => (by rw [b1] at hw; cases hw)⟩
    · exact ⟨by omega, fun w hw => word_le h hg hw⟩
  · rw [TL.len_tl] at l b3 ⊢
    rw [hy, List.length_append, List.length_cons]
    omega
theorem ask_gw {a : Ask} (ok : a.ok) : ∀ w ∈ a.ws, GW w := fun w hw => by
  cases a with
  | tell v =>
    rw [List.mem_singleton.mp hw]
    rcases ok with rfl | rfl
    · exact gw_c (by decide +kernel)
    · exact gw_c (by decide +kernel)
  | ask v n t c =>
    obtain ⟨hv, hn, t0, t1, c0, c1⟩ := ok
    have hw : w ∈ [v, n, intS t, intS c] := hw
    simp only [List.mem_cons, List.not_mem_nil, or_false] at hw
    rcases hw with rfl | rfl | rfl | rfl
    · rcases hv with rfl | rfl
      · exact gw_c (by decide +kernel)
      · exact gw_c (by decide +kernel)
    · exact gw_nm hn
    · exact gw_int t0 (by omega)
    · exact gw_int c0 (by omega)
theorem ask_told {a : Ask} (ok : a.ok) : a.told a.ws := by
  cases a with
  | tell v => exact rfl
  | ask v n t c =>
    obtain ⟨hv, hn, t0, t1, c0, c1⟩ := ok
    exact ⟨_, _, rfl, num_intS t0 (by omega), num_intS c0 (by omega)⟩
/-! the law's spreading of a row -/
def RSpread12 (vs : List V) (H : Hp) (W : V → Hp → Prop) : Prop := ∃ (c : Int) (l : Addr) (a : Ask), vs = [.int c, .ref l] ∧ 0 ≤ c ∧ a.ok ∧ H l = some (.lst (a.ws.map V.str)) ∧ W = fun v _ => ∃ x ws, v = .str x ∧ ItemOk x ws ∧ a.told ws
theorem ev_rep {ts tk : TE} {σ : L2.St} {H : Hp} {z : Str} {k : Int} (hs : Ev ts σ H (.str z)) (hk : Ev tk σ H (.int k)) (h0 : 0 ≤ k) (h1 : k ≤ 1000) (z1 : 1 ≤ z.length) (z2 : z.length ≤ 100) : Ev (tOp rMulS ts tk) σ H (.str (repS z k.toNat)) := ev_op hs hk fun H2 _ Q q => ⟨z, k, rfl, rfl, h0, h1, z1, z2, q H2 (Ex.refl _)⟩
theorem ask_len (a : Ask) : a.ws.length ≤ 4 := by
  cases a with
  | tell v => exact (show 1 ≤ 4 by decide)
  | ask v n t c => exact (show 4 ≤ 4 by decide)
theorem ev_joinP {K : PySem.W.Frag} {ts te : TE} {σ : L2.St} {H : Hp} {a : Str} {p : Addr} {ys : List Str} (hs : Ev ts σ H (.str a)) (h : Ev te σ H (.ref p)) (hp : H p = some (.lst (ys.map V.str))) (hb : (ys.map (·.length)).sum + ys.length * a.length ≤ 16777216) : Ev (tM1 (fun x xs H Q => ∃ (a : Str) (p : Addr) (ys : List Str), x = .str a ∧ xs = [.ref p] ∧ (SqL K H p (ys.map V.str) ∨ SqT K H p (ys.map V.str)) ∧ (ys.map (·.length)).sum + ys.length * a.length ≤ 16777216 ∧ Q (.str (Txt.join a ys)) H) ts te) σ H (.str (Txt.join a ys)) := fun H1 e Q q =>
  hs H1 e _ fun H2 e2 => ⟨⟨_, rfl⟩, h H2 (e.trans e2) _ fun H3 e3 => ⟨a, p, ys, rfl, rfl, .inl (sq_of ((e.trans (e2.trans e3)) _ _ hp)), hb, q H3 (e2.trans e3)⟩⟩
theorem app_tl {p b x r : Str} (h : TL.tl p = TL.tl ((b ++ ("\n" : Str)) ++ x)) : TL.tl (p ++ r) = TL.tl b ++ 10 :: TL.tl (x ++ r) := by
  have l10 : TL.tl ("\n" : Str) = [10] := by decide +kernel
  rw [tl_app, h, tl_app, tl_app, tl_app, l10]
  simp
section
variable {P : Program} {w : World} {K : PySem.W.Frag} {mg : Str → Option Value} {base : Heap} {cG : Addr} {cs : Nat → Addr} {A : GA}
theorem cal_Lspread {f : Addr} {fd : FuncData} (T : Blt mg) (F : C8.Def K mg "_law_spread" s_Lspread f fd) (b : Binds K fd ["_law_cell_here", "_law_words"] []) : C8.Cal P w K mg base 1 "_law_spread" (spW RSpread12) [] := by
  refine calW F b sc_Lspread (fun vs H v h => ?_) (fun cdv A' outer s H vs W E hr h => ?_)
  · obtain ⟨c, l, a, rfl, _⟩ := h
    rfl
  · obtain ⟨c, l, a, rfl, h0, ok, hl, rfl⟩ := h
    refine ⟨_, (pss_cons (ps_if (PW.pt (pw_and (pt_cmpR op_gt (pe_callB call_len_seq (by rfl) T.b_len boot_len (pa_cons (pv 1) pa_nil)) pe_int (nomark _)) (pw_and1 (pt_cmpR op_eq (pe_op op_mod (pv 0) pe_int) pe_int (nomark _)))))
    (pss_one (ps_set (i := 1) sc_Lspread.nd rfl (Or.inl rfl) (pe_op op_cat (pe_slice sl_list (pv 1) po_none (po_some (pe_un un_neg pe_int))) (pe_lst (pa_cons (pe_op op_add_str (pe_op op_mulS pe_str (pe_op op_add pe_int (pe_op op_mod (pe_op op_fdiv (pv 0) pe_int) pe_int))) (pe_ix ix_list (pv 1) (pe_un un_neg pe_int) (fun _ _ => rfl))) pa_nil)))))
    pss_nil)
  (pss_cons (ps_set (i := 2) sc_Lspread.nd rfl (Or.inl rfl) (pe_op op_add_str (pe_op op_mulS pe_str (pe_op op_mod (pe_op op_fdiv (pv 0) pe_int) pe_int)) (pe_join (pe_op op_mulS pe_str (pe_op op_add pe_int (pe_op op_mod (pe_op op_fdiv (pv 0) pe_int) pe_int))) (pv 1))))
  (pss_cons (ps_if (pt_cmpR op_eq (pe_op op_mod (pe_op op_fdiv (pv 0) pe_int) pe_int) pe_int (nomark _))
    (pss_one (ps_set (i := 2) sc_Lspread.nd rfl (Or.inl rfl) (pe_op op_add_str (pe_op op_add_str (pe_ix ix_list (pe_lst (pa_cons pe_str (pa_cons pe_str pa_nil))) (pe_op op_mod (pe_op op_fdiv (pv 0) pe_int) pe_int) (fun _ _ => rfl)) pe_str) (pv 2))))
    pss_nil)
  (pss_one (ps_ret (pe_op op_add_str (pv 2) (pe_op op_mulS pe_str (pe_op op_mod (pe_op op_fdiv (pv 0) pe_int) pe_int)))))))), ?_⟩
    intro Ha ea D qd
    replace hl := ea _ _ hl
    have dm : ∀ {σ : L2.St} {H : Hp} {d m : Int}, 0 < d → 0 < m → d < 100000 → m < 100000 → σ[0]? = some (some (.int c)) → Ev (tOp (rI (fun _ j => 0 < j) fun i j => V.int (i % j)) (tOp (rI CDiv fun i j => V.int (i / j)) (tVar 0) (tC (.int d))) (tC (.int m))) σ H (.int (c / d % m)) := fun hd hm' h3 h4 h => ev_op (ev_op (ev_var h) ev_c (rv_I ⟨by omega, by omega⟩)) ev_c (rv_I hm')
    have z32 : (" " : Str).length = 1 := by decide +kernel
    have z48 : ("0" : Str).length = 1 := by decide +kernel
    refine q_mid (fun σ' H' => ∃ l' ws, σ' = [some (.int c), some (.ref l'), none] ∧ H' l' = some (.lst (ws.map V.str)) ∧ Ex Ha H' ∧ a.told ws ∧ (∀ w ∈ ws, GW w) ∧ ws.length ≤ 4 ∧ ws ≠ []) (fun σ' H1 ⟨l', ws, hσ, hl1, e1, told, gw, n4, ne⟩ => ?_) fun go => ?_
    rotate_left
    · have lenw : EvT (tTest (tOp (rI0 fun i j => V.bl (decide (i > j))) (tCB (fun xs H Q => ∃ p ys, xs = [.ref p] ∧ (SqL K H p ys ∨ SqT K H p ys) ∧ Q (.int ys.length) H) (tCons (tVar 1) tNil)) (tC (.int 2)))) [some (.int c), some (.ref l), none] Ha (decide ((a.ws.length : Int) > 2)) := et_test (ev_op (ev_is (ev_lenL (K := K) (ev_var rfl) (sq_of hl)) (by rw [List.length_map])) ev_c rv_I0)
      refine s_when (b := decide ((a.ws.length : Int) > 2) && decide (c % 5 = 1)) (et_and lenw fun _ => et_is (et_test (ev_op (ev_op (ev_var (v := .int c) rfl) ev_c (rv_I (by decide))) ev_c (rv_eq rfl))) (by simp)) (fun hb H1 e1 => ?_) fun _ H1 e1 => go _ _ ⟨l, a.ws, rfl, e1 _ _ hl, e1, ask_told ok, ask_gw ok, ask_len a, by cases a <;> exact List.cons_ne_nil _ _⟩
      cases a with
      | tell v =>
        rw [Bool.and_eq_true] at hb
        exact absurd (of_decide_eq_true hb.1) (show ¬ ((1 : Nat) : Int) > 2 by decide)
      | ask v n t k =>
        have gws := ask_gw ok
        obtain ⟨hv, hn, t0, t1, k0, k1⟩ := ok
        have hl1 : H1 l = some (.lst [.str v, .str n, .str (intS t), .str (intS k)]) := e1 _ _ hl
        have zz := num_zeros (j := (1 + c / 5 % 3).toNat) (i := k) (by omega) k0 (by omega)
        have zl : (repS "0" (1 + c / 5 % 3).toNat).length + (intS k).length ≤ 100000 := by
          have := zz.2.len
          rw [strLen_append] at this
          omega
        have sl : EvL (tSl (rSlL K) (tVar 1) tNoPart (tPart (tUn (rU fun i => .int (-i)) (tC (.int 1))))) [some (.int c), some (.ref l), none] H1 [.str v, .str n, .str (intS t)] := el_sl (K := K) (lo := none) (hi := some (-1)) (te := tVar 1) (tl := tNoPart) (ev_var rfl) eo_none (eo_some (ev_un (x := .int 1) ev_c ru_neg)) (sq_of hl1)
        refine q_asgL (D := { nx := _, rt := D.rt, bk := D.bk, ct := D.ct }) (el_catNN (ys := [.str (repS "0" (1 + c / 5 % 3).toNat ++ intS k)]) sl (el_lst (ea_cons (ev_addS (ev_rep ev_c (ev_op ev_c (dm (by decide) (by decide) (by decide) (by decide) rfl) rv_I0) (by omega) (by omega) (by omega) (by omega)) (ev_ixL (K := K) (i := -1) (ev_var (v := .ref l) rfl) (ev_un (x := .int 1) ev_c ru_neg) (sq_of hl1) rfl) zl) ea_nil) (show 1 ≤ 100000 by decide)) (show 3 + 1 ≤ 100000 by decide)) fun l2 H2 nl2 e2 hl2 => ?_
        refine go _ _ ⟨l2, [v, n, intS t, repS "0" (1 + c / 5 % 3).toNat ++ intS k], rfl, hl2, e1.trans e2, ⟨_, _, rfl, num_intS t0 (by omega), zz.1⟩, fun w hw => ?_, (show 4 ≤ 4 by decide), List.cons_ne_nil _ _⟩
        simp only [List.mem_cons, List.not_mem_nil, or_false] at hw
        rcases hw with rfl | rfl | rfl | rfl
        · exact gws _ List.mem_cons_self
        · exact gws _ (List.mem_cons_of_mem _ List.mem_cons_self)
        · exact gws _ (List.mem_cons_of_mem _ (List.mem_cons_of_mem _ List.mem_cons_self))
        · exact zz.2
    subst hσ
    have rp : ∀ {σ : L2.St} {H : Hp} {d m : Int}, 0 < d → 0 < m → d < 100000 → m < 1000 → σ[0]? = some (some (.int c)) → Ev (tOp rMulS (tC (.str " ")) (tOp (rI (fun _ j => 0 < j) fun i j => V.int (i % j)) (tOp (rI CDiv fun i j => V.int (i / j)) (tVar 0) (tC (.int d))) (tC (.int m)))) σ H (.str (repS " " (c / d % m).toNat)) := fun {σ H d m} hd hm' h3 h4 h => ev_rep ev_c (dm hd hm' h3 (by omega) h) (Int.emod_nonneg _ (by omega)) (by have := Int.emod_lt_of_pos (c / d) hm'; omega) (by omega) (by omega)
    have p2 : (c / 15 % 3).toNat ≤ 2 := by omega
    have q2 : (1 + c / 45 % 2).toNat = 1 ∨ (1 + c / 45 % 2).toNat = 2 := by omega
    have r1 : (c / 90 % 2).toNat ≤ 1 := by omega
    have row := rowX_ok (ws := ws) p2 q2 r1 gw n4
    have rl := row.len
    have rpl : ∀ n : Nat, (repS " " n).length = n := fun n => by rw [TL.len_tl, rep_ch _ _ tl32, List.length_replicate]
    have ls : (repS " " (c / 15 % 3).toNat).length + (Txt.join (repS " " (1 + c / 45 % 2).toNat) ws).length + (repS " " (c / 90 % 2).toNat).length ≤ 150 := by
      have := row.len
      unfold rowX at this
      rw [strLen_append, strLen_append] at this
      exact this
    have jb : (ws.map (·.length)).sum + ws.length * (repS " " (1 + c / 45 % 2).toNat).length ≤ 16777216 := by
      have sm := sum_le (fun y : Str => y.length) 20 ws fun y hy => (gw y hy).len
      have sm : (ws.map (·.length)).sum ≤ ws.length * 20 := sm
      rw [rpl]
      have : ws.length * (1 + c / 45 % 2).toNat ≤ 4 * 2 := Nat.mul_le_mul n4 (by omega)
      omega
    refine q_asg (v := .str (repS " " (c / 15 % 3).toNat ++ Txt.join (repS " " (1 + c / 45 % 2).toNat) ws)) (ev_addS (rp (by decide) (by decide) (by decide) (by decide) rfl) (ev_joinP (K := K) (ev_rep ev_c (ev_op ev_c (dm (by decide) (by decide) (by decide) (by decide) rfl) rv_I0) (by omega) (by omega) (by omega) (by omega)) (ev_var (v := .ref l') rfl) hl1 jb) (by omega)) fun H2 e2 => ?_
    have e12 := e1.trans e2
    refine s_when (b := decide (c / 360 % 6 = 1)) (et_is (et_test (ev_op (dm (by decide) (by decide) (by decide) (by decide) rfl) ev_c (rv_eq rfl))) (by simp)) (fun _ H3 e3 => ?_) fun _ H3 e3 => ?_
    · obtain ⟨bb, hbb, ab⟩ := atI_str (ws := (["", "   "] : List Str)) (i := c / 180 % 2) (n := 2) (by omega) (by omega) rfl
      have hb' : bb = "" ∨ bb = "   " := by
        simp only [List.mem_cons, List.not_mem_nil, or_false] at hbb
        exact hbb
      have bl : bb.length ≤ 3 := by rcases hb' with rfl | rfl <;> decide +kernel
      have l10 : ("\n" : Str).length = 1 := by decide +kernel
      refine q_asg (D := { nx := _, rt := D.rt, bk := D.bk, ct := D.ct }) (v := .str ((bb ++ ("\n" : Str)) ++ (repS " " (c / 15 % 3).toNat ++ Txt.join (repS " " (1 + c / 45 % 2).toNat) ws))) (ev_addS (ev_addS (ev_ixN (K := K) (ea_cons ev_c (ea_cons ev_c ea_nil)) (dm (by decide) (by decide) (by decide) (by decide) rfl) (show 2 ≤ 100000 by decide) ab) ev_c (by omega)) (ev_var rfl) (by rw [strLen_append, strLen_append]; omega)) fun H4 e4 => ?_
      refine s_ret (ev_addS (ev_var rfl) (rp (by decide) (by decide) (by decide) (by decide) rfl) (by rw [strLen_append, strLen_append, strLen_append]; omega)) fun H5 e5 => qd _ H5 (((e12.trans e3).trans e4).trans e5) ⟨_, ws, rfl, item_two hb' row gw ne ?_, told⟩
      exact app_tl rfl
    · refine s_ret (ev_addS (ev_var rfl) (rp (by decide) (by decide) (by decide) (by decide) rfl) (by rw [strLen_append]; omega)) fun H5 e5 => qd _ H5 ((e12.trans e3).trans e5) ⟨_, ws, rfl, item_one row gw ne, told⟩
end
/-! what the law's gate tells of a row -/
theorem ask_fl {a : Ask} (ok : a.ok) : ∀ v ∈ a.vs, Fl v := fun v hv => by
  cases a with
  | tell w =>
    rw [List.mem_singleton.mp hv]
    rcases ok with rfl | rfl
    · exact .inr (.inl ⟨_, rfl, by decide +kernel⟩)
    · exact .inr (.inl ⟨_, rfl, by decide +kernel⟩)
  | ask w n t c =>
    obtain ⟨hw, hn, _⟩ := ok
    have hv : v ∈ ([.str w, .str n, .int t, .int c] : List V) := hv
    simp only [List.mem_cons, List.not_mem_nil, or_false] at hv
    rcases hv with rfl | rfl | rfl | rfl
    · rcases hw with rfl | rfl
      · exact .inr (.inl ⟨_, rfl, by decide +kernel⟩)
      · exact .inr (.inl ⟨_, rfl, by decide +kernel⟩)
    · exact .inr (.inl ⟨_, rfl, nms_ok hn⟩)
    · exact .inl ⟨_, rfl⟩
    · exact .inl ⟨_, rfl⟩
theorem ev_eqAsk {K : PySem.W.Frag} {ta : TE} {σ : L2.St} {H : Hp} {l : Addr} {xs : List V} {w : Str} {b : Bool} (ha : Ev ta σ H (.ref l)) (hl : H l = some (.lst xs)) (fl : ∀ v ∈ xs, Fl v) (hw : PySem.PyData.strOk w = true) (hb : PySem.PyData.eqv (.list (xs.map dV)) (.list [.str w]) = b) : Ev (tOp (rEqD K) ta (tLst (tCons (tC (.str w)) tNil))) σ H (.bl b) := by
  have flw : ∀ v ∈ ([.str w] : List V), Fl v := fun v hv => by
    rw [List.mem_singleton.mp hv]
    exact .inr (.inl ⟨_, rfl, hw⟩)
  rw [← hb]
  exact ev_opL ha (el_lst (ea_cons ev_c ea_nil) (show 1 ≤ 100000 by decide)) fun p H1 hp e => rv_eqD (d := .list (xs.map dV)) (f := .list (([.str w] : List V).map dV)) (fun H2 e2 => .lst (sq_of (e2 _ _ (e _ _ hl))) (dp_fl fl)) (fun H2 e2 => .lst (sq_of (e2 _ _ hp)) (dp_fl flw)) (shaped_flL fl) (shaped_flL flw)
theorem ev_joinW {K : PySem.W.Frag} {ts te : TE} {σ : L2.St} {H : Hp} {a : Str} {ys : List Str} (hs : Ev ts σ H (.str a)) (h : EvW te σ H fun v H2 => ∃ p, v = .ref p ∧ H2 p = some (.lst (ys.map V.str))) (hb : (ys.map (·.length)).sum + ys.length * a.length ≤ 16777216) : Ev (tM1 (fun x xs H Q => ∃ (a : Str) (p : Addr) (ys : List Str), x = .str a ∧ xs = [.ref p] ∧ (SqL K H p (ys.map V.str) ∨ SqT K H p (ys.map V.str)) ∧ (ys.map (·.length)).sum + ys.length * a.length ≤ 16777216 ∧ Q (.str (Txt.join a ys)) H) ts te) σ H (.str (Txt.join a ys)) := fun H1 e Q q =>
  hs H1 e _ fun H2 e2 => ⟨⟨_, rfl⟩, h H2 (e.trans e2) _ fun v H3 e3 ⟨p, ev, hp⟩ => by
    subst ev
    exact ⟨a, p, ys, rfl, rfl, .inl (sq_of hp), hb, q H3 (e2.trans e3)⟩⟩
theorem ev_neNil12 {K : PySem.W.Frag} {te : TE} {σ : L2.St} {H : Hp} {ys : List Str} (h : EvW te σ H fun v H2 => ∃ p, v = .ref p ∧ H2 p = some (.lst (ys.map V.str))) (hy : ∀ y ∈ ys, PySem.PyData.strOk y = true) : Ev (tOp (rNeD K) te (tLst tNil)) σ H (.bl (!ys.isEmpty)) := fun H1 e Q q =>
  h H1 e _ fun v H2 e2 ⟨p, ev, hp⟩ => (el_lst ea_nil (by decide) : EvL (tLst tNil) σ H2 []) H2 (Ex.refl _) _ fun p2 H3 _ e3 hp2 => by
    subst ev
    have fl : ∀ v ∈ ys.map V.str, Fl v := fun v hv => by
      obtain ⟨y, hy', rfl⟩ := List.mem_map.mp hv
      exact .inr (.inl ⟨y, rfl, hy y hy'⟩)
    have z := rv_neD (K := K) (x := .ref p) (y := .ref p2) (H := H3) (d := .list ((ys.map V.str).map dV)) (f := .list (([] : List V).map dV)) (fun H4 e4 => .lst (sq_of (e4 _ _ (e3 _ _ hp))) (dp_fl fl)) (fun H4 e4 => .lst (sq_of (e4 _ _ hp2)) (dp_fl fun v hv => by cases hv)) (shaped_flL fl) (shaped_flL fun v hv => by cases hv)
    have ez : PySem.PyData.eqv (.list ((ys.map V.str).map dV)) (.list (([] : List V).map dV)) = ys.isEmpty := by
      cases ys with
      | nil => simp only [List.map_nil, PySem.PyData.eqv, PySem.PyData.eqvAll, List.isEmpty_nil]
      | cons y r => simp only [List.map_nil, List.map_cons, PySem.PyData.eqv, PySem.PyData.eqvAll, List.isEmpty_cons]
    rw [ez] at z
    exact z H3 (Ex.refl _) Q fun H4 e4 => q H4 ((e2.trans e3).trans e4)
theorem tmethT_go {C : Addr} {m : Str} {sp : Sp} {E : L2.St → XK} {to : TE} {ta : TA} {σ : L2.St} {H : Hp} {a dx : Addr} {fs : List (Str × V)} {vs : List V} {Q : VK} (ho : Ev to σ H (.ref a)) (hx : H a = some (.ins C dx fs)) (hm : fs.lookup m = none) (h : EvA ta σ H vs) (k : ∀ H1, Ex H H1 → sp (.ref a :: vs) H1 Q (E σ)) : tMethT C m sp E to ta σ H Q :=
  ho H (Ex.refl H) _ fun H1 e1 => ⟨a, dx, fs, rfl, e1 _ _ hx, hm, h H1 e1 _ fun H2 e2 => k H2 (e1.trans e2)⟩
theorem s_asgM {te : TE} {i : Nat} {D : Ends} {σ : L2.St} {H : Hp} (h : te σ H fun v H1 => D.nx (σ.set i (some v)) H1) : tAsg te (gName i) D σ H := h
def spAns12 (A : GA) : Sp := fun vs H Q _ => ∃ H0 st c k l a, vs = [.ref c.g, .ref l] ∧ GateR A H0 st c H ∧ SInv st k ∧ k ≤ 63 ∧ a.ok ∧ H l = some (.lst a.vs) ∧
  ∀ H2 c', (∀ b o, c.τ b = none → H b = some o → H2 b = some o) → (∀ b, c'.τ b ≠ none → c.τ b ≠ none ∨ H b = none) → c'.g = c.g → GateR A H0 (nextS st a) c' H2 → Q (.str (ansS st a).txt) H2
theorem ans_tell_n {st : GSt} : (ansS st (.tell "names")).txt = namesT (st.ppl.map (·.1)) := by
  unfold ansS
  dsimp only
  rw [if_neg (by decide +kernel)]
  rfl
theorem ans_tell_k {st : GSt} : (ansS st (.tell "kept")).txt = intS (st.keptN : Nat) := by
  unfold ansS
  dsimp only
  rw [if_pos rfl]
  rfl
theorem ans_ask_no {st : GSt} {w n : Str} {t c : Int} {i : Nat} (h : refG st.last (.str n) (.int t) (.int c) = some i) : (ansS st (.ask w n t c)).txt = refT i ∧ nextS st (.ask w n t c) = st := by
  unfold ansS nextS
  dsimp only
  rw [h]
  exact ⟨rfl, rfl⟩
theorem ans_ask_ok {st : GSt} {w n : Str} {t c : Int} (h : refG st.last (.str n) (.int t) (.int c) = none) : (ansS st (.ask w n t c)).txt = st.text n t c ∧ nextS st (.ask w n t c) = if w = "ask" then st else st.next n t c := by
  unfold ansS nextS
  dsimp only
  rw [h]
  exact ⟨rfl, rfl⟩
section
variable {P : Program} {w : World} {K : PySem.W.Frag} {mg : Str → Option Value} {base : Heap} {cG : Addr} {cs : Nat → Addr} {A : GA}
theorem evw_nms {σ : L2.St} {H H0 : Hp} {c : GC} {st : GSt} (R : GateR A H0 st c H) (hn : st.ppl.length < 64) (h0 : σ[0]? = some (some (.ref c.g))) : EvW (tMeth A.gt "names" (spW (RNames A)) [] C8.E0 (tVar 0) tNil) σ H fun v H2 => ∃ p, v = .ref p ∧ H2 p = some (.lst ((isort (st.ppl.map (·.1))).map V.str)) := by
  obtain ⟨dx, ho⟩ := R.ob
  refine EvW.imp (evw_methW (ev_var h0) ho rfl ea_nil fun H1 e => ⟨H0, st, c, rfl, R.mono e, hn, rfl⟩) fun v H2 _ ⟨p, ys, ev, hp, pm, so⟩ => ⟨p, ev, ?_⟩
  rw [← isort_one pm so]
  exact hp
theorem cal_Lanswer {f : Addr} {fd : FuncData} (T : Blt mg) (G : Gcl mg cG cs A.J A.W) (R : Kdr K cG cs 6) (t_Gate_ask : MetX P w K mg base 6 A.gt "ask" (spGAsk K A cs)) (t_Gate_visit : MetX P w K mg base 7 A.gt "visit" (spGVisit K A cs)) (t_Gate_names : C8.Met P w K mg base 1 A.gt "names" (spW (RNames A)) []) (t_Gate_kept : C8.Met P w K mg base 2 A.gt "kept" (spF (RKeptG A)) []) (c_Lkind : C8.Cal P w K mg base 1 "_law_kind" (spF (RKind12 cs)) []) (c_Ltext : C8.Cal P w K mg base 1 "_law_text" (spF RText12) []) (F : C8.Def K mg "_law_answer" s_Lanswer f fd) (b : Binds K fd ["_law_gate", "_law_asked"] []) : C8.Cal P w K mg base 8 "_law_answer" (spAns12 A) [] := by
  refine C8.cal0 F b .nil sc_Lanswer (fun vs H Q E h => ?_) (fun cdv A' outer s H vs Q E hr h => ?_)
  · obtain ⟨H0, st, c, k, l, a, rfl, _⟩ := h
    rfl
  · obtain ⟨H0, st, c, k, l, a, rfl, Rg, S, hk, ok, hl, q⟩ := h
    refine ⟨_, (pss_cons (ps_if (pt_cmpR (op_eqD hr.units) (pv 1) (pe_lst (pa_cons pe_str pa_nil)) (nomark _))
    (pss_one (ps_ret (pe_ifExp (pt_cmpR (op_neD hr.units) (C8.pe_mt0 t_Gate_names hr (by decide) (pv 0)) (pe_lst pa_nil) (nomark _)) (pe_join pe_str (C8.pe_mt0 t_Gate_names hr (by decide) (pv 0))) pe_str)))
    pss_nil)
  (pss_cons (ps_if (pt_cmpR (op_eqD hr.units) (pv 1) (pe_lst (pa_cons pe_str pa_nil)) (nomark _))
    (pss_one (ps_ret (pe_callTy call_str_int (by rfl) T.b_str boot_str (pa_cons (C8.pe_mt0 t_Gate_kept hr (by decide) (pv 0)) pa_nil))))
    pss_nil)
  (pss_cons (ps_set (i := 2) sc_Lanswer.nd rfl (Or.inl rfl) pe_non)
  (pss_cons (ps_set (i := 3) sc_Lanswer.nd rfl (Or.inl rfl) pe_non)
  (pss_cons (ps_try_keep (i := 4) (tb := fun W => tIfS (tTest (tOp rEq (tOp (rIxL K) (tVar 1) (tC (.int 0))) (tC (.str "ask")))) (tAsg (tMethT A.gt "ask" (spGAsk K A cs) (WE W) (tVar 0) (tCons (tOp (rIxL K) (tVar 1) (tC (.int 1))) (tCons (tOp (rIxL K) (tVar 1) (tC (.int 2))) (tCons (tOp (rIxL K) (tVar 1) (tC (.int 3))) tNil)))) (gName 3)) (tAsg (tMethT A.gt "visit" (spGVisit K A cs) (WE W) (tVar 0) (tCons (tOp (rIxL K) (tVar 1) (tC (.int 1))) (tCons (tOp (rIxL K) (tVar 1) (tC (.int 2))) (tCons (tOp (rIxL K) (tVar 1) (tC (.int 3))) tNil)))) (gName 3))) (ts := tAsg (tVar 4) (gName 2)) (Wout := fun _ _ _ _ => False) rfl rfl sc_Lanswer.nd rfl rfl ⟨rfl, by decide, Or.inl G.c_GateError⟩ takes0 (fun W pn xe tk _ => pss_one (ps_if (pt_cmpR op_eq (pe_ix ix_list (pv 1) pe_int (fun _ _ => rfl)) pe_str (nomark _)) (pss_one (ps_set (i := 3) sc_Lanswer.nd rfl (Or.inl rfl) (by exact (pe_mT t_Gate_ask tk hr (by decide) (pv 0) (pa_cons (pe_ix ix_list (pv 1) pe_int (fun _ _ => rfl)) (pa_cons (pe_ix ix_list (pv 1) pe_int (fun _ _ => rfl)) (pa_cons (pe_ix ix_list (pv 1) pe_int (fun _ _ => rfl)) pa_nil))))))) (pss_one (ps_set (i := 3) sc_Lanswer.nd rfl (Or.inl rfl) (by exact (pe_mT t_Gate_visit tk hr (by decide) (pv 0) (pa_cons (pe_ix ix_list (pv 1) pe_int (fun _ _ => rfl)) (pa_cons (pe_ix ix_list (pv 1) pe_int (fun _ _ => rfl)) (pa_cons (pe_ix ix_list (pv 1) pe_int (fun _ _ => rfl)) pa_nil))))))))) (fun a pn => pss_one (ps_set (i := 2) sc_Lanswer.nd rfl (Or.inl rfl) (pv 4))))
  (pss_one (ps_ret (pe_ifExp (pt_cmp (pc_isN (pv 2))) (C8.pe_c c_Ltext hr (by decide) rfl (pa_cons (pv 3) pa_nil)) (C8.pe_c c_Lkind hr (by decide) rfl (pa_cons (pv 2) pa_nil)))))))))), ?_⟩
    obtain ⟨dx, ho⟩ := Rg.ob
    have fl := ask_fl ok
    have nP := S.W.nP
    have same : ∀ H2, Ex H H2 → nextS st a = st → Q (.str (ansS st a).txt) H2 := fun H2 e en => q H2 c (fun b o _ hb => e _ _ hb) (fun b hb => .inl hb) rfl (by rw [en]; exact Rg.mono e)
    cases a with
    | tell v =>
      have ok : v = "names" ∨ v = "kept" := ok
      have ne1 : PySem.PyData.eqv (.list ((Ask.tell "kept").vs.map dV)) (.list [.str "names"]) = false := by
        have z : (("kept" : Str) == "names") = false := by decide +kernel
        simp only [Ask.vs, dV, List.map_cons, List.map_nil, PySem.PyData.eqv, PySem.PyData.eqvAll, z, Bool.false_and]
      have eq1 : ∀ w : Str, PySem.PyData.eqv (.list ((Ask.tell w).vs.map dV)) (.list [.str w]) = true := fun w => by
        simp only [Ask.vs, dV, List.map_cons, List.map_nil, PySem.PyData.eqv, PySem.PyData.eqvAll, beq_self_eq_true, Bool.and_self]
      rcases ok with rfl | rfl
      · refine q_when (b := true) (et_test (ev_eqAsk (ev_var rfl) hl fl (by decide +kernel) (eq1 _))) (fun _ H1 e1 => ?_) fun z => by cases z
        have R1 := Rg.mono e1
        have nm : ∀ y ∈ isort (st.ppl.map (·.1)), PySem.PyData.strOk y = true ∧ y.length ≤ 9 := fun y hy => by
          obtain ⟨r, hr, rfl⟩ := List.mem_map.mp ((isort_perm _).mem_iff.mp hy)
          exact ⟨nms_ok (S.nl r hr), nms_len (S.nl r hr)⟩
        have len : (isort (st.ppl.map (·.1))).length = st.ppl.length := by rw [(isort_perm _).length_eq, List.length_map]
        refine s_ret (v := .str (namesT (st.ppl.map (·.1)))) (ev_if (b := !(isort (st.ppl.map (·.1))).isEmpty) (et_test (ev_neNil12 (evw_nms R1 (by omega) rfl) fun y hy => (nm y hy).1)) (fun hb => ?_) fun hb => ?_) fun H2 e2 => by
          rw [← ans_tell_n]
          exact same H2 (e1.trans e2) rfl
        · have nn : st.ppl.map (·.1) ≠ [] := fun z => by
            rw [z] at hb
            cases hb
          have et : namesT (st.ppl.map (·.1)) = Txt.join (" " : Str) (isort (st.ppl.map (·.1))) := if_neg nn
          rw [et]
          refine ev_joinW ev_c (evw_nms R1 (by omega) rfl) ?_
          have sm := sum_le (fun y : Str => y.length) 9 (isort (st.ppl.map (·.1))) fun y hy => (nm y hy).2
          have sl : (isort (st.ppl.map (·.1))).length * 9 ≤ 64 * 9 := Nat.mul_le_mul_right _ (by omega)
          have l1 : (" " : Str).length = 1 := by decide +kernel
          rw [l1]
          have sm : ((isort (st.ppl.map (·.1))).map (·.length)).sum ≤ (isort (st.ppl.map (·.1))).length * 9 := sm
          omega
        · have nn : st.ppl.map (·.1) = [] := by
            refine List.length_eq_zero_iff.mp ?_
            have z : (isort (st.ppl.map (·.1))).isEmpty = true := by simpa using hb
            rw [List.isEmpty_iff] at z
            rw [z] at len
            rw [List.length_map, ← len]
            rfl
          have et : namesT (st.ppl.map (·.1)) = "-" := if_pos nn
          rw [et]
          exact ev_c
      · refine q_when (b := false) (et_test (ev_eqAsk (ev_var rfl) hl fl (by decide +kernel) ne1)) (fun z => by cases z) fun _ H1 e1 => ?_
        refine q_when (b := true) (et_test (ev_eqAsk (ev_var rfl) (e1 _ _ hl) fl (by decide +kernel) (eq1 _))) (fun _ H2 e2 => ?_) fun z => by cases z
        have e12 := e1.trans e2
        have kN := keptN_le S.W (by omega)
        refine s_ret (v := .str (intS (st.keptN : Nat))) (ev_strI (ev_methF (ev_var (v := .ref c.g) rfl) (e12 _ _ ho) rfl ea_nil fun H6 e6 => ⟨H0, st, c, k, rfl, Rg.mono (e12.trans e6), S.W, by omega, rfl⟩) (log_14 (by omega) (by omega))) fun H3 e3 => by
          rw [← ans_tell_k]
          exact same H3 (e12.trans e3) rfl
    | ask w n t kc =>
      have ne1 : ∀ v : Str, PySem.PyData.eqv (.list ((Ask.ask w n t kc).vs.map dV)) (.list [.str v]) = false := fun v => by
        simp only [Ask.vs, dV, List.map_cons, List.map_nil, PySem.PyData.eqv, PySem.PyData.eqvAll, Bool.and_false]
      obtain ⟨hw, hn, t0, t1, c0, c1⟩ := ok
      have nl := nms_len hn
      refine q_when (b := false) (et_test (ev_eqAsk (ev_var rfl) hl fl (by decide +kernel) (ne1 _))) (fun z => by cases z) fun _ H1 e1 => ?_
      refine q_when (b := false) (et_test (ev_eqAsk (ev_var rfl) (e1 _ _ hl) fl (by decide +kernel) (ne1 _))) (fun z => by cases z) fun _ H2 e2 => ?_
      refine q_asg ev_c fun H3 e3 => q_asg ev_c fun H4 e4 => ?_
      have e04 := ((e1.trans e2).trans e3).trans e4
      clear e1 e2 e3 e4
      have hl4 : H4 l = some (.lst [.str w, .str n, .int t, .int kc]) := e04 _ _ hl
      have ho4 := e04 _ _ ho
      have fin : ∀ i a H5, 1 ≤ i → i < 5 → KEx H5 a (cs i) none → (∀ H6, Ex H5 H6 → Q (.str (refT i)) H6) → tRet (tIf (tB (tIsN (tVar 2))) (tCall (spF RText12) [] C8.E0 (tCons (tVar 3) tNil)) (tCall (spF (RKind12 cs)) [] C8.E0 (tCons (tVar 2) tNil))) { nx := fun _ H' => Q .non H', rt := Q } [some (.ref c.g), some (.ref l), some (.ref a), some .non, none] H5 := fun i a H5 h1 h2 kx qq =>
        s_ret (v := .str (refT i)) (ev_if (b := false) (et_B (ev_isN (ev_var (v := .ref a) rfl))) (fun z => by cases z) fun _ => ev_callF (ea_cons (ev_var rfl) ea_nil) fun H6 e6 => ⟨a, i, none, rfl, h1, h2, kx.mono e6, rfl⟩) qq
      have raised : ∀ i H5, refG st.last (.str n) (.int t) (.int kc) = some i → Ex H4 H5 → WE (wKeep K (.ref cG) 4 (tAsg (tVar 4) (gName 2)) (fun _ _ _ _ => False) { nx := tRet (tIf (tB (tIsN (tVar 2))) (tCall (spF RText12) [] C8.E0 (tCons (tVar 3) tNil)) (tCall (spF (RKind12 cs)) [] C8.E0 (tCons (tVar 2) tNil))) { nx := fun _ H' => Q .non H', rt := Q }, rt := Q }) [some (.ref c.g), some (.ref l), some .non, some .non, none] (.ref (cs i)) none H5 := fun i H5 hi e5 => by
        obtain ⟨i1, i5⟩ := refG_lt hi
        obtain ⟨ea, en⟩ := ans_ask_no (w := w) hi
        exact ⟨true, R.em i (by omega), fun _ a na => ⟨.ref a, rfl, fin i a _ i1 i5 upd_same fun H6 e6 => by
          rw [← ea]
          exact same H6 (((e04.trans e5).trans (Ex.new na)).trans e6) en⟩, fun z => by cases z⟩
      have good : ∀ (p : Addr) (xs : List V) (x : Str) H5, H5 p = some (.tup xs) → ShT xs x → (∀ H6, Ex H5 H6 → Q (.str x) H6) → tRet (tIf (tB (tIsN (tVar 2))) (tCall (spF RText12) [] C8.E0 (tCons (tVar 3) tNil)) (tCall (spF (RKind12 cs)) [] C8.E0 (tCons (tVar 2) tNil))) { nx := fun _ H' => Q .non H', rt := Q } [some (.ref c.g), some (.ref l), some .non, some (.ref p), none] H5 := fun p xs x H5 hp sh qq =>
        s_ret (v := .str x) (ev_if (b := true) (et_B (ev_isN (ev_var (v := .non) rfl))) (fun _ => ev_callF (ea_cons (ev_var rfl) ea_nil) fun H6 e6 => ⟨p, xs, x, rfl, e6 _ _ hp, sh, rfl⟩) fun z => by cases z) qq
      have args : ∀ {σ : L2.St} {H5 : Hp}, Ex H4 H5 → σ[1]? = some (some (.ref l)) → EvA (tCons (tOp (rIxL K) (tVar 1) (tC (.int 1))) (tCons (tOp (rIxL K) (tVar 1) (tC (.int 2))) (tCons (tOp (rIxL K) (tVar 1) (tC (.int 3))) tNil))) σ H5 [.str n, .int t, .int kc] := fun {σ H5} e5 s1 =>
        have hl5 := sq_of (K := K) (e5 _ _ hl4)
        ea_cons (ev_ixL (ev_var s1) ev_c hl5 rfl) (ea_cons (ev_ixL (ev_var s1) ev_c hl5 rfl) (ea_cons (ev_ixL (ev_var s1) ev_c hl5 rfl) ea_nil))
      refine s_if (b := decide (w = "ask")) (et_is (et_test (ev_op (ev_ixL (v := .str w) (ev_var (v := .ref l) rfl) ev_c (sq_of hl4) rfl) ev_c (rv_eq rfl))) (by simp)) (fun hd H5 e5 => ?_) fun hd H5 e5 => ?_
      · have w0 : w = "ask" := of_decide_eq_true hd
        refine s_asgM (tmethT_go (ev_var rfl) (e5 _ _ ho4) rfl (args e5 rfl) fun H6 e6 => ?_)
        have e46 := e5.trans e6
        have e06 := e04.trans e46
        refine ⟨H0, st, c, k, .str n, .int t, .int kc, rfl, Rg.mono e06, S.W, by omega, .inl ⟨n, rfl, by omega⟩, .inl ⟨t, rfl⟩, .inl ⟨kc, rfl⟩, fun i hi H7 e7 => raised i H7 hi (e46.trans e7), fun n' t' kc' en et ec hn' H7 p e7 hp => ?_⟩
        cases en
        cases et
        cases ec
        obtain ⟨tl, _, t12, c1', c9⟩ := ask_none hn'
        obtain ⟨ea, en⟩ := ans_ask_ok (w := w) hn'
        rw [if_pos w0] at en
        refine good p _ _ H7 hp (text_is S.cb S.W (by omega) tl (by omega) c9) fun H8 e8 => ?_
        rw [← ea]
        exact same H8 ((e06.trans e7).trans e8) en
      · have w0 : ¬ w = "ask" := of_decide_eq_false hd
        refine s_asgM (tmethT_go (ev_var rfl) (e5 _ _ ho4) rfl (args e5 rfl) fun H6 e6 => ?_)
        have e46 := e5.trans e6
        have e06 := e04.trans e46
        refine ⟨H0, st, c, k, .str n, .int t, .int kc, rfl, Rg.mono e06, S.W, by omega, .inl ⟨n, rfl, by omega⟩, .inl ⟨t, rfl⟩, .inl ⟨kc, rfl⟩, fun i hi H7 e7 => raised i H7 hi (e46.trans e7), fun n' t' kc' en et ec hn' H7 p c' kp tau hg R7 hp => ?_⟩
        cases en
        cases et
        cases ec
        obtain ⟨tl, _, t12, c1', c9⟩ := ask_none hn'
        obtain ⟨ea, en⟩ := ans_ask_ok (w := w) hn'
        rw [if_neg w0] at en
        refine good p _ _ H7 hp (text_is S.cb S.W (by omega) tl (by omega) c9) fun H8 e8 => ?_
        rw [← ea]
        exact q H8 c' (fun b o hb h => e8 _ _ (kp b o hb (e06 _ _ h))) (fun b hb => (tau b hb).imp id fun z => fresh_back e06 z) hg (by rw [en]; exact R7.mono e8)
end
/-! the law's lists: bounds, what their rows say, made bounds; a text's parts -/
def Tups (H : Hp) (ts : List Addr) (bds : List Bd) : Prop := Paired (fun (bd : Bd) t => H t = some (.tup bd.tup)) bds ts
theorem Tups.mono {H H' : Hp} {ts : List Addr} {bds : List Bd} (e : Ex H H') (h : Tups H ts bds) : Tups H' ts bds := paired_imp h fun _ _ z => e _ _ z
def TupP (f : Nat → Bd) (i : Nat) (v : V) (H : Hp) : Prop := ∃ t, v = .ref t ∧ H t = some (.tup (f i).tup)
theorem TupP.mono {f : Nat → Bd} (i : Nat) (v : V) (H H' : Hp) (e : Ex H H') (h : TupP f i v H) : TupP f i v H' := h.imp fun t z => ⟨z.1, e _ _ z.2⟩
theorem TupP.nol {f : Nat → Bd} (i : Nat) (v : V) (H : Hp) (D : Addr) (xs ys : List V) (hD : H D = some (.lst xs)) (h : TupP f i v H) : TupP f i v (upd H D (.lst ys)) := h.imp fun t z => ⟨z.1, by rw [upd_ne (ne_of z.2 hD (by intro h; cases h))]; exact z.2⟩
theorem tups_of {f : Nat → Bd} {xs : List V} {n : Nat} {H : Hp} (hl : xs.length = n) (hP : ∀ i x, xs[i]? = some x → TupP f i x H) : ∃ ts : List Addr, xs = ts.map V.ref ∧ Tups H ts ((List.range n).map f) := by
  refine ⟨xs.map fun x => match x with | .ref y => y | _ => 0, ?_, paired_of (by rw [List.length_map, List.length_map, List.length_range, hl]) fun i bd y h1 h2 => ?_⟩
  · rw [List.map_map]
    refine List.ext_getElem (by rw [List.length_map]) fun i h1 h2 => ?_
    obtain ⟨y, a, _⟩ := hP i xs[i] (List.getElem?_eq_getElem h1)
    rw [List.getElem_map, a]
    rfl
  · rw [List.getElem?_map] at h1 h2
    obtain ⟨x, hx, rfl⟩ := Option.map_eq_some_iff.mp h2
    obtain ⟨j, hj, rfl⟩ := Option.map_eq_some_iff.mp h1
    obtain ⟨y, rfl, z⟩ := hP i x hx
    obtain ⟨hlt, e⟩ := List.getElem?_eq_some_iff.mp hj
    rw [List.getElem_range] at e
    rw [← e]
    exact z
theorem bound_ok {c sc : Int} (h : 0 ≤ c) (h1 : 1 ≤ sc) (h2 : sc ≤ 40000000) : (boundV c sc).ok := by
  have b := bound_in h h1 h2
  cases e : boundV c sc with
  | jar m f =>
    rw [e] at b
    obtain ⟨b1, b2, b3, b4, _⟩ := b
    have b2 : m ≤ 1000000000 := b2
    exact ⟨b1, by omega, b3, b4⟩
  | win m s =>
    rw [e] at b
    obtain ⟨b1, b2, b3, b4, b5⟩ := b
    have b2 : m ≤ 1000000000 := b2
    have b4 : s ≤ 1000000000 := b4
    exact ⟨b1, by omega, b5 m s rfl, by omega⟩
theorem ten12 {σ : L2.St} {H : Hp} : Ev (tOp (rI CPow fun i j => V.int (i ^ j.toNat)) (tC (.int 10)) (tC (.int 12))) σ H (.int 1000000000000) := ev_is (ev_op ev_c ev_c (rv_I ⟨by decide, by decide, by decide⟩)) (congrArg V.int (by decide))
def BdP (cJ cW : Addr) (f : Nat → Bd) (i : Nat) (v : V) (H : Hp) : Prop := ∃ y, v = .ref y ∧ BdAt cJ cW (f i) y H
theorem BdP.mono {cJ cW : Addr} {f : Nat → Bd} (i : Nat) (v : V) (H H' : Hp) (e : Ex H H') (h : BdP cJ cW f i v H) : BdP cJ cW f i v H' := h.imp fun y z => ⟨z.1, z.2.mono e⟩
theorem BdP.nol {cJ cW : Addr} {f : Nat → Bd} (i : Nat) (v : V) (H : Hp) (D : Addr) (xs ys : List V) (hD : H D = some (.lst xs)) (h : BdP cJ cW f i v H) : BdP cJ cW f i v (upd H D (.lst ys)) := h.imp fun y z => ⟨z.1, by
  have z2 := z.2
  cases e : f i with
  | jar s g =>
    rw [e] at z2
    obtain ⟨dy, hy⟩ := z2
    exact ⟨dy, by rw [upd_ne (ne_of hy hD (by intro h; cases h))]; exact hy⟩
  | win s g =>
    rw [e] at z2
    obtain ⟨dy, hy⟩ := z2
    exact ⟨dy, by rw [upd_ne (ne_of hy hD (by intro h; cases h))]; exact hy⟩⟩
theorem bds_of {cJ cW : Addr} {f : Nat → Bd} {xs : List V} {n : Nat} {H : Hp} (hl : xs.length = n) (hP : ∀ i x, xs[i]? = some x → BdP cJ cW f i x H) : ∃ ys : List Addr, xs = ys.map V.ref ∧ Paired (fun bd y => BdAt cJ cW bd y H) ((List.range n).map f) ys := by
  refine ⟨xs.map fun x => match x with | .ref y => y | _ => 0, ?_, paired_of (by rw [List.length_map, List.length_map, List.length_range, hl]) fun i bd y h1 h2 => ?_⟩
  · rw [List.map_map]
    refine List.ext_getElem (by rw [List.length_map]) fun i h1 h2 => ?_
    obtain ⟨y, a, _⟩ := hP i xs[i] (List.getElem?_eq_getElem h1)
    rw [List.getElem_map, a]
    rfl
  · rw [List.getElem?_map] at h1 h2
    obtain ⟨x, hx, rfl⟩ := Option.map_eq_some_iff.mp h2
    obtain ⟨j, hj, rfl⟩ := Option.map_eq_some_iff.mp h1
    obtain ⟨y, rfl, z⟩ := hP i x hx
    obtain ⟨hlt, e⟩ := List.getElem?_eq_some_iff.mp hj
    rw [List.getElem_range] at e
    rw [← e]
    exact z
theorem evw_lcPF {Hb : Hp} {wi : TI} {te : TE} {σ : L2.St} {H : Hp} {items : Nat → V} {n j : Nat} {vs : List Nat} (P : Nat → V → Hp → Prop) (mono : ∀ i v H1 H2, Ex H1 H2 → P i v H1 → P i v H2) (nolst : ∀ i v H1 D xs ys, H1 D = some (.lst xs) → P i v H1 → P i v (upd H1 D (.lst ys)))
    (eb : Ex Hb H) (h : EvI wi σ H items n) (hn : n ≤ 40000) (hw : ∀ x, wipe ((wipe σ vs).set j (some x)) vs = wipe σ vs) (he : ∀ i H1, Ex H H1 → i < n → EvW te ((wipe σ vs).set j (some (items i))) H1 (P i)) :
    EvW (tLc wi (gName j) tYes te vs) σ H (fun v H2 => ∃ l xs, v = .ref l ∧ Hb l = none ∧ H2 l = some (.lst xs) ∧ xs.length = n ∧ ∀ i x, xs[i]? = some x → P i x H2) := fun H0 e0 Q q =>
  h H0 e0 _ fun J H1 e1 G => fun D nD => by
    refine ⟨fun i m H' => m = n - i ∧ i ≤ n ∧ Ex H1 H' ∧ ∃ xs : List V, H' D = some (.lst xs) ∧ xs.length = i ∧ ∀ k x, xs[k]? = some x → P k x H', ⟨n, by simp, Nat.zero_le _, Ex.new nD, [], upd_same, rfl, fun k x hx => by simp at hx⟩, ?_⟩
    rintro i m H' ⟨rfl, hi, e, xs, hD, hl, hP⟩
    by_cases hlt : i < n
    · refine .inr ⟨G.go i H' e hlt, fun H'' => i + 1 ≤ n ∧ Ex H1 H'' ∧ ∃ xs : List V, H'' D = some (.lst xs) ∧ xs.length = i + 1 ∧ ∀ k x, xs[k]? = some x → P k x H'', fun H'' p => ⟨n - (i + 1), by omega, rfl, p⟩, fun x H2 y => ?_⟩
      obtain ⟨rfl, rfl⟩ := G.yld i x H' H2 e hlt y
      refine ⟨hw _, ?_⟩
      refine yesT8 ?_
      refine he i H2 ((e0.trans e1).trans e) hlt H2 (Ex.refl _) _ fun v H3 e3 p => ?_
      have hD3 := e3 _ _ hD
      refine ⟨xs, hD3, sz_lt (by omega), hlt, (e.trans e3).mut nD, xs ++ [v], upd_same, by rw [List.length_append, hl]; rfl, fun k x hx => ?_⟩
      by_cases hk : k < xs.length
      · rw [List.getElem?_append_left hk] at hx
        exact nolst k x H3 D xs _ hD3 (mono k x _ _ e3 (hP k x hx))
      · rw [List.getElem?_append_right (by omega)] at hx
        have hk0 : k - xs.length = 0 := by
          have := (List.getElem?_eq_some_iff.mp hx).1
          simp at this
          omega
        rw [hk0] at hx
        obtain rfl : v = x := by simpa using hx
        obtain rfl : k = i := by omega
        exact nolst k v H3 D xs _ hD3 p
    · obtain rfl : i = n := by omega
      exact .inl ⟨G.stop _ e, q _ _ (e1.trans e) ⟨D, xs, rfl, fresh_back ((eb.trans e0).trans e1) nD, hD, hl, hP⟩⟩
theorem range_own (own : List Bd) : (List.range own.length).map (fun i => own.getD i (.jar 0 0)) = own := by
  refine List.ext_getElem (by rw [List.length_map, List.length_range]) fun i h1 h2 => ?_
  rw [List.getElem_map, List.getElem_range, List.getD_eq_getElem?_getD, List.getElem?_eq_getElem h2]
  rfl
/-- a block whose names are its own or a module's -/
theorem blkOk_any {N : List Str} {sc scope : Scope} {own : List (Str × Nat)} (h : blkC N { scope with names := [] } scope own = true) : BlkOk N sc scope own := by
  have k := blkOk_by h
  refine ⟨k.kind, k.uniq, k.ix, fun y hy e => ?_, k.own⟩
  rcases k.free y hy e with z | z <;> cases z
theorem pe_joinK {X : Cx} {K : PySem.W.Frag} {o e : Expr} {to te : TE} {apos pos : Pos} (hK : X.K = K) (ho : PE X o to) (he : PE X e te) (hs : starEach [e] X.env = [(false, eval e X.env)] := by rfl) (hbase : attributeBase o "join" X.env (eval o X.env) = eval o X.env := by rfl) (hline : (apos.endLine == pos.line) = true := by rfl) :
    PE X (.Call (.Attribute o "join" apos) [e] [] pos) (tM1 (fun x xs H Q => ∃ (a : Str) (p : Addr) (ys : List Str), x = .str a ∧ xs = [.ref p] ∧ (SqL K H p (ys.map V.str) ∨ SqT K H p (ys.map V.str)) ∧ (ys.map (·.length)).sum + ys.length * a.length ≤ 16777216 ∧ Q (.str (Txt.join a ys)) H) to te) := by
  subst hK
  exact pe_join ho he hs hbase hline
theorem pi_tupK {X : Cx} {K : PySem.W.Frag} {tg e : Expr} {te : TE} (hK : X.K = K) (h : PE X e te) : PI X tg e (iTup K te) := by
  subst hK
  exact pi_tup h
/-- a heap without one of its things -/
def del1 (H : Hp) (a : Addr) : Hp := fun c => if c = a then none else H c
theorem del1_ex {H : Hp} {a : Addr} : Ex (del1 H a) H := fun c o h => by
  unfold del1 at h
  split at h
  · cases h
  · exact h
theorem del1_none {H : Hp} {a : Addr} : del1 H a a = none := by
  unfold del1
  rw [if_pos rfl]
theorem del1_old {H H' : Hp} {a : Addr} (e : Ex H H') (h : H a = none) : Ex H (del1 H' a) := fun c o hc => by
  unfold del1
  rw [if_neg]
  · exact e _ _ hc
  · intro z
    rw [z, h] at hc
    cases hc
theorem del1_bd {cJ cW : Addr} {bd : Bd} {y : Addr} {H : Hp} {a : Addr} {xs : List V} (ha : H a = some (.lst xs)) (h : BdAt cJ cW bd y H) : BdAt cJ cW bd y (del1 H a) := by
  have z : ∀ C dy fs, H y = some (.ins C dy fs) → del1 H a y = some (.ins C dy fs) := fun C dy fs e => by
    unfold del1
    rw [if_neg]
    · exact e
    · intro q
      rw [q, ha] at e
      cases e
  cases bd with
  | jar s f => exact h.imp fun d e => z _ _ _ e
  | win s f => exact h.imp fun d e => z _ _ _ e
/-- a comprehension by its values, a new list -/
theorem el_lcE {wi : TI} {te : TE} {σ : L2.St} {H : Hp} {items : Nat → V} {n j : Nat} {vs : List Nat} (f : Nat → V) (h : EvI wi σ H items n) (hn : n ≤ 40000) (hw : ∀ x, wipe ((wipe σ vs).set j (some x)) vs = wipe σ vs) (he : ∀ i H1, Ex H H1 → i < n → Ev te ((wipe σ vs).set j (some (items i))) H1 (f i)) : EvL (tLc wi (gName j) tYes te vs) σ H ((List.range n).map f) := fun H1 e Q q =>
  (evw_lcPF (Hb := H1) (H := H1) (fun i v _ => v = f i) (fun i v H2 H3 _ z => z) (fun i v H2 D xs ys _ z => z) (Ex.refl _) (fun H2 e2 => h H2 (e.trans e2)) hn hw fun i H2 e2 hi => evw_v (he i H2 (e.trans e2) hi) fun _ _ => rfl) H1 (Ex.refl _) Q fun v H2 e2 ⟨l, xs, ev, nl, hl, hxl, hP⟩ => by
    subst ev
    refine q l H2 nl e2 ?_
    rw [hl]
    congr 2
    refine List.ext_getElem (by rw [hxl, List.length_map, List.length_range]) fun i h1 h2 => ?_
    rw [List.getElem_map, List.getElem_range]
    exact hP i _ (List.getElem?_eq_getElem h1)
def strV : V → Str
  | .str x => x
  | .int i => intS i
  | _ => Str.empty
def StrAble (v : V) : Prop := (∃ x, v = .str x) ∨ ∃ i : Int, v = .int i ∧ i.natAbs.log2 < 1920
theorem ev_strA {te : TE} {σ : L2.St} {H : Hp} {v : V} (h : Ev te σ H v) (hv : StrAble v) : Ev (tCB rStrA (tCons te tNil)) σ H (.str (strV v)) := ev_cb (ea_cons h ea_nil) fun H1 _ Q q => ⟨v, strV v, rfl, by
  rcases hv with ⟨x, rfl⟩ | ⟨i, rfl, hi⟩
  · exact .inl ⟨x, rfl, rfl⟩
  · exact .inr ⟨i, rfl, hi, rfl⟩, q H1 (Ex.refl _)⟩
theorem el_strs {wi : TI} {σ : L2.St} {H : Hp} {xs : List V} {j : Nat} (h : EvI wi σ H (fun i => xs.getD i .non) xs.length) (hn : xs.length ≤ 100) (hx : ∀ v ∈ xs, StrAble v) (hw : ∀ x, wipe ((wipe σ [j]).set j (some x)) [j] = wipe σ [j]) (hj : ∀ x : V, ((wipe σ [j]).set j (some x))[j]? = some (some x)) : EvL (tLc wi (gName j) tYes (tCB rStrA (tCons (tVar j) tNil)) [j]) σ H ((xs.map strV).map V.str) := by
  have e : (xs.map strV).map V.str = (List.range xs.length).map fun i => V.str (strV (xs.getD i .non)) := by
    refine List.ext_getElem (by simp) fun i h1 h2 => ?_
    have hi : i < xs.length := by simpa using h1
    rw [List.getElem_map, List.getElem_map, List.getElem_map, List.getElem_range, List.getD_eq_getElem?_getD, List.getElem?_eq_getElem hi]
    rfl
  rw [e]
  refine el_lcE _ h (by omega) hw fun i H1 e1 hi => ev_strA (ev_var (hj _)) ?_
  rw [List.getD_eq_getElem?_getD, List.getElem?_eq_getElem hi]
  exact hx _ (List.getElem_mem hi)
theorem bd_able {b : Bd} (ok : b.ok) : ∀ v ∈ b.tup, StrAble v := fun v hv => by
  obtain ⟨n1, n2, n3, n4⟩ := bd_num ok
  have hv : v ∈ ([.str b.nm, .int b.cap, .int b.two] : List V) := by cases b <;> exact hv
  simp only [List.mem_cons, List.not_mem_nil, or_false] at hv
  rcases hv with rfl | rfl | rfl
  · exact .inl ⟨_, rfl⟩
  · exact .inr ⟨_, rfl, log_16 n1 (by omega)⟩
  · exact .inr ⟨_, rfl, log_16 n3 (by omega)⟩
theorem bd_strs (w0 : Str) (b : Bd) : w0 :: b.tup.map strV = bw w0 b := by cases b <;> rfl
theorem bw_gw {w0 : Str} {b : Bd} (hw : w0 = "own" ∨ w0 = "common") (ok : b.ok) : ∀ w ∈ bw w0 b, GW w := fun w h => by
  obtain ⟨n1, n2, n3, n4⟩ := bd_num ok
  have h : w ∈ [w0, b.nm, intS b.cap, intS b.two] := h
  simp only [List.mem_cons, List.not_mem_nil, or_false] at h
  rcases h with rfl | rfl | rfl | rfl
  · rcases hw with rfl | rfl
    · exact gw_c (by decide +kernel)
    · exact gw_c (by decide +kernel)
  · cases b
    · exact (gw_c (by decide +kernel) : GW ("jar" : Str))
    · exact (gw_c (by decide +kernel) : GW ("window" : Str))
  · exact gw_int n1 (by omega)
  · exact gw_int n3 (by omega)
def bwT (w0 : Str) (b : Bd) : Str := Txt.join (" " : Str) (bw w0 b)
theorem bw_item {w0 : Str} {b : Bd} (hw : w0 = "own" ∨ w0 = "common") (ok : b.ok) : ItemOk (bwT w0 b) (bw w0 b) := by
  have g := bw_gw hw ok
  have z := rowX_ok (p := 0) (q := 1) (r := 0) (ws := bw w0 b) (by decide) (.inl rfl) (by decide) g (show 4 ≤ 4 by decide)
  have e : rowX 0 1 0 (bw w0 b) = bwT w0 b := TL.ext_tl (by
    unfold rowX bwT
    rw [rep_none, rep_one, tl_app, tl_app]
    show [] ++ _ ++ [] = _
    rw [List.nil_append, List.append_nil])
  rw [e] at z
  exact item_one z g (List.cons_ne_nil _ _)
theorem bw_items {w0 : Str} (hw : w0 = "own" ∨ w0 = "common") : ∀ {bs : List Bd}, (∀ b ∈ bs, b.ok) → Paired ItemOk (bs.map (bwT w0)) (bs.map (bw w0))
  | [], _ => .nil
  | b :: bs, h => .cons (bw_item hw (h b List.mem_cons_self)) (bw_items hw fun x hx => h x (List.mem_cons_of_mem _ hx))
theorem bw_cnt {w0 : Str} (hw : w0 = "own" ∨ w0 = "common") : ∀ bs : List Bd, cntAll (bs.map (bw w0)) = 0
  | [] => rfl
  | b :: bs => by
    have ih : ((bs.map (bw w0)).map cntW).sum = 0 := bw_cnt hw bs
    have c : cntW (bw w0 b) = 0 := if_pos hw
    show (((b :: bs).map (bw w0)).map cntW).sum = 0
    rw [List.map_cons, List.map_cons, List.sum_cons, c, ih]
theorem cntAll_app (a b : List (List Str)) : cntAll (a ++ b) = cntAll a + cntAll b := by
  unfold cntAll
  rw [List.map_append, List.sum_append]
section
variable {K : PySem.W.Frag} {A : GA}
/-- the rows that tell bounds -/
theorem el_bwT {σ : L2.St} {H : Hp} {p : Addr} {ts : List Addr} {bds : List Bd} {a1 : Nat} {w0 : Str} (hw0 : w0 = "own" ∨ w0 = "common") (hp : SqL K H p (ts.map V.ref)) (ht : Tups H ts bds) (ok : ∀ b ∈ bds, b.ok) (hb : bds.length ≤ 4) (h1 : σ[a1]? = some (some (.ref p))) (hw : ∀ x, wipe ((wipe σ [12]).set 12 (some x)) [12] = wipe σ [12]) (h12 : ∀ x : V, ((wipe σ [12]).set 12 (some x))[12]? = some (some x)) (hw3 : ∀ x y : V, wipe ((wipe ((wipe σ [12]).set 12 (some x)) [13]).set 13 (some y)) [13] = wipe ((wipe σ [12]).set 12 (some x)) [13]) (h13 : ∀ x y : V, ((wipe ((wipe σ [12]).set 12 (some x)) [13]).set 13 (some y))[13]? = some (some y)) :
    EvL (tLc (iList K (tVar a1)) (gName 12) tYes (tM1 (fun x xs H Q => ∃ (a : Str) (p : Addr) (ys : List Str), x = .str a ∧ xs = [.ref p] ∧ (SqL K H p (ys.map V.str) ∨ SqT K H p (ys.map V.str)) ∧ (ys.map (·.length)).sum + ys.length * a.length ≤ 16777216 ∧ Q (.str (Txt.join a ys)) H) (tC (.str " ")) (tOp rCat (tLst (tCons (tC (.str w0)) tNil)) (tLc (iTup K (tVar 12)) (gName 13) tYes (tCB rStrA (tCons (tVar 13) tNil)) [13]))) [12]) σ H ((bds.map (bwT w0)).map V.str) := by
  have len := Paired.length ht
  have e : (bds.map (bwT w0)).map V.str = (List.range ts.length).map fun i => V.str (bwT w0 (bds.getD i (.jar 0 0))) := by
    rw [← len]
    refine List.ext_getElem (by simp) fun i h1 h2 => ?_
    have hi : i < bds.length := by simpa using h1
    rw [List.getElem_map, List.getElem_map, List.getElem_map, List.getElem_range, List.getD_eq_getElem?_getD, List.getElem?_eq_getElem hi]
    rfl
  rw [e]
  have lm : (ts.map V.ref).length = ts.length := List.length_map _
  have it := ei_l (K := K) .non (ev_var (σ := σ) (H := H) h1) hp
  rw [lm] at it
  refine el_lcE _ it (by omega) hw fun i H1 e1 hi => ?_
  have htp : ts[i]? = some ts[i] := List.getElem?_eq_getElem hi
  obtain ⟨bd, hbd, hT⟩ := paired_at ht htp
  have item : (ts.map V.ref).getD i .non = .ref ts[i] := by
    rw [List.getD_eq_getElem?_getD, List.getElem?_map, htp]
    rfl
  have eb : bds.getD i (.jar 0 0) = bd := by rw [List.getD_eq_getElem?_getD, hbd]; rfl
  rw [item, eb]
  have okb := ok bd (List.mem_of_getElem? hbd)
  have tl := el_catNN (xs := [V.str w0]) (ys := (bd.tup.map strV).map V.str) (H := H1) (σ := (wipe σ [12]).set 12 (some (.ref ts[i]))) (el_lst (ea_cons ev_c ea_nil) (show 1 ≤ 100000 by decide)) (el_strs (wi := iTup K (tVar 12)) (xs := bd.tup) (j := 13) (ei_t (K := K) .non (ev_var (h12 _)) (st_of (e1 _ _ hT))) (by cases bd <;> exact (show 3 ≤ 100 by decide)) (bd_able okb) (hw3 _) (h13 _)) (by cases bd <;> exact (show 1 + 3 ≤ 100000 by decide))
  have et : [V.str w0] ++ (bd.tup.map strV).map V.str = (bw w0 bd).map V.str := by
    rw [← bd_strs]
    rfl
  rw [et] at tl
  refine ev_joinL ev_c tl ?_
  have l1 : (" " : Str).length = 1 := by decide +kernel
  have sm := sum_le (fun y : Str => y.length) 20 (bw w0 bd) fun y hy => (bw_gw hw0 okb y hy).len
  have sm : ((bw w0 bd).map (·.length)).sum ≤ 4 * 20 := sm
  have l4 : (bw w0 bd).length = 4 := rfl
  rw [l1, l4]
  omega
/-- the bounds made of them -/
theorem evw_made {σ : L2.St} {H Hb : Hp} {p : Addr} {ts : List Addr} {bds : List Bd} {a1 j : Nat} (hp : SqL K H p (ts.map V.ref)) (ht : Tups H ts bds) (ok : ∀ b ∈ bds, b.ok) (hb : bds.length ≤ 4) (eb : Ex Hb H) (h1 : σ[a1]? = some (some (.ref p))) (hw : ∀ x, wipe ((wipe σ [j]).set j (some x)) [j] = wipe σ [j]) (h5 : ∀ x : V, ((wipe σ [j]).set j (some x))[j]? = some (some x)) :
    EvW (tLc (iList K (tVar a1)) (gName j) tYes (tCall (spW (RMade A.J A.W)) [] C8.E0 (tCons (tVar j) tNil)) [j]) σ H fun v H2 => ∃ l ys, v = .ref l ∧ Hb l = none ∧ H2 l = some (.lst (ys.map V.ref)) ∧ Paired (fun bd y => BdAt A.J A.W bd y H2) bds ys := by
  have len := Paired.length ht
  refine (evw_lcPF (BdP A.J A.W fun i => bds.getD i (.jar 0 0)) BdP.mono BdP.nol eb (ei_l (K := K) .non (ev_var h1) hp) (by rw [List.length_map, ← len]; omega) hw fun i H1 e hi => ?_).imp fun v H2 _ ⟨l, xs, ev, nl, hl, hxl, hP⟩ => ?_
  · rw [List.length_map] at hi
    have htp : ts[i]? = some ts[i] := List.getElem?_eq_getElem hi
    obtain ⟨bd, hbd, hT⟩ := paired_at ht htp
    have item : (ts.map V.ref).getD i .non = .ref ts[i] := by
      rw [List.getD_eq_getElem?_getD, List.getElem?_map, htp]
      rfl
    rw [item]
    have eb : bds.getD i (.jar 0 0) = bd := by rw [List.getD_eq_getElem?_getD, hbd]; rfl
    refine evw_callW (W := fun v H2 => ∃ y, v = .ref y ∧ BdAt A.J A.W bd y H2) (ea_cons (ev_var (h5 _)) ea_nil) (fun H2 e2 => ⟨ts[i], bd, rfl, (e.trans e2) _ _ hT, ok bd (List.mem_of_getElem? hbd), rfl⟩) |>.imp fun v H2 _ h => ?_
    show ∃ y, v = V.ref y ∧ BdAt A.J A.W (bds.getD i (.jar 0 0)) y H2
    rw [eb]
    exact h
  · obtain ⟨ys, rfl, hB⟩ := bds_of hxl hP
    rw [List.length_map, ← len, range_own] at hB
    exact ⟨l, ys, ev, nl, hl, hB⟩
theorem made2_go {sp : Sp} {E : XK} {t0 t1 : TE} {C : Addr} {j : Nat} {u : TS} {D : Ends} {σ : L2.St} {H : Hp} {W0 W1 : V → Hp → Prop} (h0 : EvW t0 σ H W0) (h1 : ∀ v H1, Ex H H1 → W0 v H1 → EvW t1 σ H1 W1) (k : ∀ v0 v1 H1 H2, Ex H H1 → W0 v0 H1 → Ex H1 H2 → W1 v1 H2 → ∀ x dx, H2 x = none → H2 dx = none → dx ≠ x → sp [.ref x, v0, v1] (upd (upd H2 dx (.own x)) x (.ins C dx [])) (fun v H3 => v = .non ∧ u D (σ.set j (some (.ref x))) H3) E) :
    tSeq (tAsg (tMake C sp [] E (tCons t0 (tCons t1 tNil))) (gName j)) u D σ H := h0 H (Ex.refl H) _ fun v0 H1 e1 w0 => h1 v0 H1 e1 w0 H1 (Ex.refl _) _ fun v1 H2 e2 w1 => k v0 v1 H1 H2 e1 w0 e2 w1
/-- a gate of these lists -/
theorem init_ok {cN : Addr} {Hc : Hp} {x dx p3 p4 : Addr} {ys ys2 : List Addr} {own com : List Bd} {Q : VK} {E : XK} (nx : Hc x = none) (nd : Hc dx = none) (h3 : SqL K Hc p3 (ys.map V.ref)) (b3 : Paired (fun bd y => BdAt A.J A.W bd y Hc) own ys) (l3 : own.length ≤ 4) (h4 : SqL K Hc p4 (ys2.map V.ref)) (b4 : Paired (fun bd y => BdAt A.J A.W bd y Hc) com ys2) (l4 : com.length ≤ 4) (q : ∀ H2 c, Ex Hc H2 → c.g = x → c.ys = ys → GateR A Hc (gst0 own com) c H2 → Q .non H2) :
    spGInit K A cN [.ref x, .ref p3, .ref p4] (upd (upd Hc dx (.own x)) x (.ins A.gt dx [])) Q E := by
  have inj : ∀ {c : GC}, c.ys.map V.ref = ys.map V.ref → c.ys = ys := fun h => (List.map_inj_right fun u v z => by injection z).mp h
  have n3 := Paired.length b3
  have n4 := Paired.length b4
  refine ⟨Hc, x, dx, p3, ys.map V.ref, .ref p4, rfl, upd_same, nx, fun b o hb => ?_, .inl h3, by rw [List.length_map]; omega, .inr ⟨own, ⟨ys, rfl, b3, l3⟩, ?_⟩⟩
  · rw [upd_ne (ne_of_none hb nx), upd_ne (ne_of_none hb nd)]
    exact hb
  · exact .inr ⟨p4, ys2.map V.ref, rfl, .inl h4, by rw [List.length_map]; omega, .inr ⟨com, ⟨ys2, rfl, b4, l4⟩, fun H2 c e hg hy R => q H2 c e hg (inj hy) R⟩⟩
end
/-! the law -/
def spLaw (K : PySem.W.Frag) : Sp := fun vs H Q _ => ∃ (a : Addr) (ns : List Int), vs = [.ref a] ∧ SqL K H a (ns.map V.int) ∧ ns.length ≤ 63 ∧ ∀ H', Q (.bl true) H'
theorem rCell {K : PySem.W.Frag} {H : Hp} {a : Addr} {ns : List Int} {k : Int} (hS : SqL K H a (ns.map V.int)) (hl : ns.length ≤ 63) (hk : 0 ≤ k) : ∀ H1, Ex H H1 → RCell K [.ref a, .int k] H1 (.int (cellV ns k)) := fun H1 e => ⟨a, ns, k, rfl, ex_l e hS, hl, hk, rfl⟩
theorem rOne {D : Int → Prop} {f : Int → Int} {H : Hp} {c : Int} (h : D c) : ∀ H1, Ex H H1 → R1 D f [.int c] H1 (.int (f c)) := fun _ _ => ⟨c, rfl, h, rfl⟩
theorem q_appW {K : PySem.W.Frag} {ta te : TE} {tz : TS} {D : Ends} {σ : L2.St} {H : Hp} {l : Addr} {xs : List V} {W : V → Hp → Prop} (hl : H l = some (.lst xs)) (ha : Ev ta σ H (.ref l)) (h : EvW te σ H W) (hz : xs.length < 100000) (k : ∀ v H1, Ex H H1 → W v H1 → tz D σ (upd H1 l (.lst (xs ++ [v])))) :
    tSeq (tDrop (tBM K "list" rAppend ta (tCons te tNil))) tz D σ H := ha H (Ex.refl H) _ fun H1 e1 =>
  ⟨Or.inl ⟨rfl, xs, sq_of (e1 l _ hl)⟩, h H1 e1 _ fun v H2 e2 w => ⟨l, xs, v, rfl, rfl, e2 l _ (e1 l _ hl), sz_lt hz, k v H2 (e1.trans e2) w⟩⟩
theorem evw_vL {R : List V → Hp → (V → Hp → Prop) → Prop} {te tl : TE} {E : XK} {σ : L2.St} {H : Hp} {x : V} {xs : List V} {W : V → Hp → Prop} (he : Ev te σ H x) (h : EvL tl σ H xs) (hR : ∀ p H1, Ex H H1 → H1 p = some (.lst xs) → R [x, .ref p] H1 W) : EvW (tCall (spW R) [] E (tCons te (tCons tl tNil))) σ H W := fun H1 e Q q =>
  he H1 e _ fun H2 e2 => h H2 (e.trans e2) _ fun p H3 _ e3 hp => ⟨W, fun H4 e4 => hR p H4 (((e.trans e2).trans e3).trans e4) (e4 _ _ hp), fun v H4 e4 w => q v H4 ((e2.trans e3).trans e4) w⟩
theorem oks (k : Nat) : (List.replicate k [V.str "ok"]).flatten = (List.replicate k ("ok" : Str)).map V.str := by
  induction k with
  | zero => rfl
  | succ k ih =>
    rw [List.replicate_succ, List.flatten_cons, ih, List.replicate_succ, List.map_cons]
    rfl
theorem items_len : ∀ {xs : List Str} {wss : List (List Str)}, Paired ItemOk xs wss → ∀ y ∈ xs, y.length ≤ 400
  | [], _, _, y, hy => by cases hy
  | _ :: _, _ :: _, .cons h r, y, hy => by
    rcases List.mem_cons.mp hy with rfl | z
    · exact h.len
    · exact items_len r y z
theorem ask_len2 (a : Ask) : a.vs.length ≤ 100 := by
  cases a with
  | tell w => exact (show 1 ≤ 100 by decide)
  | ask w n t c => exact (show 4 ≤ 100 by decide)
theorem ask_strs (a : Ask) : a.vs.map strV = a.ws := by cases a <;> rfl
theorem ask_able {a : Ask} (ok : a.ok) : ∀ v ∈ a.vs, StrAble v := fun v hv => by
  cases a with
  | tell w =>
    rw [List.mem_singleton.mp hv]
    exact .inl ⟨_, rfl⟩
  | ask w n t c =>
    obtain ⟨hw, hn, t0, t1, c0, c1⟩ := ok
    have hv : v ∈ ([.str w, .str n, .int t, .int c] : List V) := hv
    simp only [List.mem_cons, List.not_mem_nil, or_false] at hv
    rcases hv with rfl | rfl | rfl | rfl
    · exact .inl ⟨_, rfl⟩
    · exact .inl ⟨_, rfl⟩
    · exact .inr ⟨_, rfl, log_16 t0 (by omega)⟩
    · exact .inr ⟨_, rfl, log_16 c0 (by omega)⟩
structure L12 (A : GA) (Hb : Hp) (g ll ld : Addr) (st : GSt) (i : Nat) (c : GC) (xs : List Str) (wss : List (List Str)) (H : Hp) : Prop where
  R : GateR A Hb st c H
  eg : c.g = g
  S : SInv st i
  I : Paired ItemOk xs wss
  hl : H ll = some (.lst (xs.map V.str))
  hd : H ld = some (.lst ((runR pst0 wss).map V.str))
  ne : ll ≠ ld
  tl : c.τ ll = none
  td : c.τ ld = none
  bl : Hb ll = none
  bd : Hb ld = none
  em : (endR pst0 wss).made = st
  cnt : cntAll wss ≤ i
  len : xs.length ≤ i + 8
  dlen : (runR pst0 wss).length ≤ i + 8
  sok : ∀ x ∈ runR pst0 wss, PySem.PyData.strOk x = true
theorem L12.mono {A : GA} {Hb H H' : Hp} {g ll ld : Addr} {st : GSt} {i : Nat} {c : GC} {xs : List Str} {wss : List (List Str)} (e : Ex H H') (h : L12 A Hb g ll ld st i c xs wss H) : L12 A Hb g ll ld st i c xs wss H' :=
  { h with
    R := h.R.mono e
    hl := e _ _ h.hl
    hd := e _ _ h.hd }
theorem L12.gone {A : GA} {Hb H : Hp} {g ll ld b : Addr} {st : GSt} {i : Nat} {c : GC} {xs : List Str} {wss : List (List Str)} (h : L12 A Hb g ll ld st i c xs wss H) (hb : H b = none) : c.τ b = none := by
  cases z : c.τ b with
  | none => rfl
  | some u =>
    obtain ⟨_, o, h1, _⟩ := h.R.kd b (by rw [z]; exact fun z => by cases z)
    rw [hb] at h1
    cases h1
/-- a row more -/
theorem L12.turn {A : GA} {Hb H : Hp} {g ll ld la : Addr} {st : GSt} {i : Nat} {c : GC} {xs : List Str} {wss : List (List Str)} {D : Ends} {σ : L2.St} {K : PySem.W.Frag} {tl : TE} {a : Ask} (h : L12 A Hb g ll ld st i c xs wss H) (hi : i < 63) (ok : a.ok) (hla : H la = some (.lst a.vs)) (nla : la ≠ ll) (s6 : σ[6]? = some (some (.ref g))) (s7 : σ[7]? = some (some (.ref ld))) (s10 : σ[10]? = some (some (.ref la)))
    (hl : Ev (tVar 5) σ H (.ref ll)) (ht : EvW tl σ H fun v _ => ∃ x ws, v = .str x ∧ ItemOk x ws ∧ a.told ws)
    (k : ∀ c' xs' wss' H', L12 A Hb g ll ld (nextS st a) (i + 1) c' xs' wss' H' → D.nx σ H') :
    tSeq (tDrop (tBM K "list" rAppend (tVar 5) (tCons tl tNil))) (tDrop (tBM K "list" rAppend (tVar 7) (tCons (tCall (spAns12 A) [] C8.E0 (tCons (tVar 6) (tCons (tVar 10) tNil))) tNil))) D σ H := by
  have xl := h.len
  have dl := h.dlen
  refine q_appW h.hl hl ht (by rw [List.length_map]; omega) fun v H1 e1 ⟨x, ws, ev, it, told⟩ => ?_
  subst ev
  have h1 := h.mono e1
  have ex : xs.map V.str ++ [V.str x] = (xs ++ [x]).map V.str := by rw [List.map_append]; rfl
  rw [ex]
  have hl2 : upd H1 ll (.lst ((xs ++ [x]).map V.str)) ll = some (.lst ((xs ++ [x]).map V.str)) := upd_same
  have R2 := swap13 (ys := (xs ++ [x]).map V.str) h1.R h1.hl h1.tl h1.bl
  have hd2 : upd H1 ll (.lst ((xs ++ [x]).map V.str)) ld = some (.lst ((runR pst0 wss).map V.str)) := by
    rw [upd_ne h.ne.symm]
    exact h1.hd
  have ha2 : upd H1 ll (.lst ((xs ++ [x]).map V.str)) la = some (.lst a.vs) := by
    rw [upd_ne nla]
    exact e1 _ _ hla
  generalize upd H1 ll (.lst ((xs ++ [x]).map V.str)) = H2 at hl2 R2 hd2 ha2
  refine appM_go (ev_var s7) hd2 fun H3 e3 => ?_
  refine call1v_go (tcall_go (vs := [.ref g, .ref la]) (ea_cons (ev_var s6) (ea_cons (ev_var s10) ea_nil)) fun H4 e4 => ?_)
  have e24 := e3.trans e4
  refine ⟨Hb, st, c, i, la, a, by rw [h.eg]; rfl, R2.mono e24, h.S, by omega, ok, e24 _ _ ha2, fun H5 c' keep tau hg R5 => ?_⟩
  have hl5 := keep _ _ h.tl (e24 _ _ hl2)
  have hd5 := keep _ _ h.td (e24 _ _ hd2)
  have tl5 : c'.τ ll = none := Classical.byContradiction fun z => (tau ll z).elim (fun y => y h.tl) fun y => by rw [e24 _ _ hl2] at y; cases y
  have td5 : c'.τ ld = none := Classical.byContradiction fun z => (tau ld z).elim (fun y => y h.td) fun y => by rw [e24 _ _ hd2] at y; cases y
  refine ⟨ld, (runR pst0 wss).map V.str, _, rfl, rfl, hd5, sz_lt (by rw [List.length_map]; omega), ?_⟩
  have st_ := step_ask (s := endR pst0 wss) ok told
  rw [h.em] at st_
  have er : runR pst0 (wss ++ [ws]) = runR pst0 wss ++ [(ansS st a).txt] := by rw [run_snoc, st_]
  have ed : (runR pst0 wss).map V.str ++ [V.str (ansS st a).txt] = (runR pst0 (wss ++ [ws])).map V.str := by
    rw [er, List.map_append]
    rfl
  rw [ed]
  refine k c' (xs ++ [x]) (wss ++ [ws]) _ ⟨swap13 R5 hd5 td5 h.bd, hg.trans h.eg, h.S.next ok, paired_snoc h.I it, ?_, upd_same, h.ne, tl5, td5, h.bl, h.bd, ?_, ?_, ?_, ?_, ?_⟩
  · rw [upd_ne h.ne]
    exact hl5
  · rw [end_snoc, st_]
    rfl
  · rw [cntAll_app]
    have z : cntAll [ws] = cntW ws := by
      show cntW ws + 0 = _
      omega
    have y := cntW_le ws
    have w := h.cnt
    omega
  · rw [List.length_append]
    show xs.length + 1 ≤ _
    omega
  · rw [er, List.length_append]
    show _ + 1 ≤ _
    omega
  · intro y hy
    rw [er] at hy
    rcases List.mem_append.mp hy with z | z
    · exact h.sok y z
    · rw [List.mem_singleton.mp z]
      exact ans_ok h.S (by omega)
section
variable {P : Program} {w : World} {K : PySem.W.Frag} {mg : Str → Option Value} {base : Heap} {A : GA} {cs : Nat → Addr}
theorem law_body {cdv : Value} {Ar : Around} {outer : List Env} {s : Shared} {H : Hp} {Q : VK} {E : XK} {ff : Addr} {a : Addr} {ns : List Int} (T : Blt mg) (hr : Room 11 (Ar.deeper (envOfC "law" (C8.fnScope s_law) s.heap.objs.size ff cdv)))
    (c_Lcell : C8.Cal P w K mg base 1 "_law_cell" (spF (RCell K)) []) (c_Lscale : C8.Cal P w K mg base 1 "_law_scale" (spF (R1 (fun c => 0 ≤ c) scaleV)) []) (c_Lgap : C8.Cal P w K mg base 1 "_law_gap" (spF (R1 (fun c => 0 ≤ c) gapV)) [])
    (c_Lbound : C8.Cal P w K mg base 1 "_law_bound" (spW RBound) []) (c_Lmade : C8.Cal P w K mg base 4 "_law_made" (spW (RMade A.J A.W)) []) (m_Gate : MakX P w K mg base 5 "Gate" A.gt (spGInit K A (cs 0)) ["self", "own", "common"]) (c_Lrow : C8.Cal P w K mg base 2 "_law_row" (spW RRow12) []) (c_Lspread : C8.Cal P w K mg base 1 "_law_spread" (spW RSpread12) []) (c_Lanswer : C8.Cal P w K mg base 8 "_law_answer" (spAns12 A) []) (c_play : C8.Cal P w K mg base 11 "play" spPlay [])
    (hS : SqL K H a (ns.map V.int)) (hl : ns.length ≤ 63) (q : ∀ H', Q (.bl true) H') :
    ∃ t, PSs (cxOf C8.CX0 P w K mg base ["_law_script", "_law_scale_here", "_law_k", "_law_own", "_law_common", "_law_lines", "_law_gate", "_law_due", "_law_moment", "_law_cell_here", "_law_asked", "_law_found", "_law_bound_here", "_law_part"] "law" (C8.fnScope s_law) ff cdv Ar outer s H E).nox (C8.fnBody s_law) t ∧ t { nx := fun _ H' => Q .non H', rt := Q } (start ["_law_script", "_law_scale_here", "_law_k", "_law_own", "_law_common", "_law_lines", "_law_gate", "_law_due", "_law_moment", "_law_cell_here", "_law_asked", "_law_found", "_law_bound_here", "_law_part"] [.ref a]) H := by
  refine ⟨_, (pss_cons (ps_set (i := 1) sc_law.nd rfl (Or.inr rfl) (C8.pe_c c_Lscale hr (by decide) rfl (pa_cons (C8.pe_c c_Lcell hr (by decide) rfl (pa_cons (pv 0) (pa_cons pe_int pa_nil))) pa_nil)))
  (pss_cons (ps_setLc (i := 3) (own := [("_law_k", 2)]) (g := gName 2) rfl sc_law.nd rfl rfl (sw_true rfl rfl rfl (by decide +kernel)) (pi_range1 rfl T.b_range (pa_cons (pe_op op_mod (C8.pe_c c_Lcell hr (by decide) rfl (pa_cons (pv 0) (pa_cons pe_int pa_nil))) pe_int) pa_nil)) (blkOk_by (own := [("_law_k", 2)]) (N := ["_law_script", "_law_scale_here", "_law_k", "_law_own", "_law_common", "_law_lines", "_law_gate", "_law_due", "_law_moment", "_law_cell_here", "_law_asked", "_law_found", "_law_bound_here", "_law_part"]) (sc := C8.fnScope s_law) (by decide +kernel)) (fun _ _ _ _ _ => pg_name (i := 2) sc_law.nd rfl (Or.inl rfl)) (fun _ _ _ _ _ => pts_nil) (fun _ _ _ _ _ => (C8.pe_c c_Lbound hr (by decide) rfl (pa_cons (C8.pe_c c_Lcell hr (by decide) rfl (pa_cons (pv 0) (pa_cons (pe_op op_add pe_int (pv 2)) pa_nil))) (pa_cons (pv 1) pa_nil)))))
  (pss_cons (ps_setLc (i := 4) (own := [("_law_k", 2)]) (g := gName 2) rfl sc_law.nd rfl rfl (sw_true rfl rfl rfl (by decide +kernel)) (pi_range1 rfl T.b_range (pa_cons (pe_op op_mod (C8.pe_c c_Lcell hr (by decide) rfl (pa_cons (pv 0) (pa_cons pe_int pa_nil))) pe_int) pa_nil)) (blkOk_by (own := [("_law_k", 2)]) (N := ["_law_script", "_law_scale_here", "_law_k", "_law_own", "_law_common", "_law_lines", "_law_gate", "_law_due", "_law_moment", "_law_cell_here", "_law_asked", "_law_found", "_law_bound_here", "_law_part"]) (sc := C8.fnScope s_law) (by decide +kernel)) (fun _ _ _ _ _ => pg_name (i := 2) sc_law.nd rfl (Or.inl rfl)) (fun _ _ _ _ _ => pts_nil) (fun _ _ _ _ _ => (C8.pe_c c_Lbound hr (by decide) rfl (pa_cons (C8.pe_c c_Lcell hr (by decide) rfl (pa_cons (pv 0) (pa_cons (pe_op op_add pe_int (pv 2)) pa_nil))) (pa_cons (pv 1) pa_nil)))))
  (pss_cons (ps_setLc (i := 5) (own := [("_law_bound_here", 12)]) (g := gName 12) rfl sc_law.nd rfl rfl (sw_true rfl rfl rfl (by decide +kernel)) (pi_list (pv 3)) (blkOk_by (own := [("_law_bound_here", 12)]) (N := ["_law_script", "_law_scale_here", "_law_k", "_law_own", "_law_common", "_law_lines", "_law_gate", "_law_due", "_law_moment", "_law_cell_here", "_law_asked", "_law_found", "_law_bound_here", "_law_part"]) (sc := C8.fnScope s_law) (by decide +kernel)) (fun _ _ _ _ _ => pg_name (i := 12) sc_law.nd rfl (Or.inl rfl)) (fun _ _ _ _ _ => pts_nil) (fun _ _ _ _ _ => (pe_joinK (K := K) rfl pe_str (pe_op op_cat (pe_lst (pa_cons pe_str pa_nil)) (by exact (pe_lc (own := [("_law_part", 13)]) (g := gName 13) rfl sc_law.nd (pi_tupK (K := K) rfl (pv 12)) (blkOk_any (N := ["_law_script", "_law_scale_here", "_law_k", "_law_own", "_law_common", "_law_lines", "_law_gate", "_law_due", "_law_moment", "_law_cell_here", "_law_asked", "_law_found", "_law_bound_here", "_law_part"]) (by decide +kernel)) (fun _ _ _ _ _ => pg_name (i := 13) sc_law.nd rfl (Or.inl rfl)) (fun _ _ _ _ _ => pts_nil) (fun _ _ _ _ _ => (by exact (pe_callTy call_strA (by rfl) T.b_str boot_str (pa_cons (pv 13) pa_nil))))))))))
  (pss_cons (ps_set (i := 5) sc_law.nd rfl (Or.inl rfl) (pe_op op_cat (pv 5) (pe_lc (own := [("_law_bound_here", 12)]) (g := gName 12) rfl sc_law.nd (pi_list (pv 4)) (blkOk_by (own := [("_law_bound_here", 12)]) (N := ["_law_script", "_law_scale_here", "_law_k", "_law_own", "_law_common", "_law_lines", "_law_gate", "_law_due", "_law_moment", "_law_cell_here", "_law_asked", "_law_found", "_law_bound_here", "_law_part"]) (sc := C8.fnScope s_law) (by decide +kernel)) (fun _ _ _ _ _ => pg_name (i := 12) sc_law.nd rfl (Or.inl rfl)) (fun _ _ _ _ _ => pts_nil) (fun _ _ _ _ _ => (pe_joinK (K := K) rfl pe_str (pe_op op_cat (pe_lst (pa_cons pe_str pa_nil)) (by exact (pe_lc (own := [("_law_part", 13)]) (g := gName 13) rfl sc_law.nd (pi_tupK (K := K) rfl (pv 12)) (blkOk_any (N := ["_law_script", "_law_scale_here", "_law_k", "_law_own", "_law_common", "_law_lines", "_law_gate", "_law_due", "_law_moment", "_law_cell_here", "_law_asked", "_law_found", "_law_bound_here", "_law_part"]) (by decide +kernel)) (fun _ _ _ _ _ => pg_name (i := 13) sc_law.nd rfl (Or.inl rfl)) (fun _ _ _ _ _ => pts_nil) (fun _ _ _ _ _ => (by exact (pe_callTy call_strA (by rfl) T.b_str boot_str (pa_cons (pv 13) pa_nil))))))))))))
  (pss_cons (ps_set (i := 6) sc_law.nd rfl (Or.inl rfl) (pe_mkX9 m_Gate passF hr (by decide) rfl (pa_cons (pe_lc (own := [("_law_bound_here", 12)]) (g := gName 12) rfl sc_law.nd (pi_list (pv 3)) (blkOk_by (own := [("_law_bound_here", 12)]) (N := ["_law_script", "_law_scale_here", "_law_k", "_law_own", "_law_common", "_law_lines", "_law_gate", "_law_due", "_law_moment", "_law_cell_here", "_law_asked", "_law_found", "_law_bound_here", "_law_part"]) (sc := C8.fnScope s_law) (by decide +kernel)) (fun _ _ _ _ _ => pg_name (i := 12) sc_law.nd rfl (Or.inl rfl)) (fun _ _ _ _ _ => pts_nil) (fun _ _ _ _ _ => (C8.pe_c c_Lmade hr (by decide) rfl (pa_cons (pv 12) pa_nil)))) (pa_cons (pe_lc (own := [("_law_bound_here", 12)]) (g := gName 12) rfl sc_law.nd (pi_list (pv 4)) (blkOk_by (own := [("_law_bound_here", 12)]) (N := ["_law_script", "_law_scale_here", "_law_k", "_law_own", "_law_common", "_law_lines", "_law_gate", "_law_due", "_law_moment", "_law_cell_here", "_law_asked", "_law_found", "_law_bound_here", "_law_part"]) (sc := C8.fnScope s_law) (by decide +kernel)) (fun _ _ _ _ _ => pg_name (i := 12) sc_law.nd rfl (Or.inl rfl)) (fun _ _ _ _ _ => pts_nil) (fun _ _ _ _ _ => (C8.pe_c c_Lmade hr (by decide) rfl (pa_cons (pv 12) pa_nil)))) pa_nil))))
  (pss_cons (ps_set (i := 7) sc_law.nd rfl (Or.inl rfl) (pe_op op_rep (pe_lst (pa_cons pe_str pa_nil)) (pe_callB call_len_seq (by rfl) T.b_len boot_len (pa_cons (pv 5) pa_nil))))
  (pss_cons (ps_set (i := 8) sc_law.nd rfl (Or.inl rfl) pe_int)
  (pss_cons (ps_for PassesOwn.never rfl (pi_range1 rfl T.b_range (pa_cons (pe_callB call_len_seq (by rfl) T.b_len boot_len (pa_cons (pv 0) pa_nil)) pa_nil)) (pg_name (i := 2) sc_law.nd rfl (Or.inl rfl))
    (pss_cons (ps_set (i := 9) sc_law.nd rfl (Or.inl rfl) (C8.pe_c c_Lcell hr (by decide) rfl (pa_cons (pv 0) (pa_cons (pe_op op_add pe_int (pe_op op_mul pe_int (pv 2))) pa_nil))))
    (pss_cons (ps_set (i := 8) sc_law.nd rfl (Or.inl rfl) (pe_callB (call_min2 rfl) (by rfl) T.b_min boot_min (pa_cons (pe_op op_pow pe_int pe_int) (pa_cons (pe_op op_add (pv 8) (C8.pe_c c_Lgap hr (by decide) rfl (pa_cons (C8.pe_c c_Lcell hr (by decide) rfl (pa_cons (pv 0) (pa_cons (pe_op op_add pe_int (pe_op op_mul pe_int (pv 2))) pa_nil))) pa_nil))) pa_nil))))
    (pss_cons (ps_set (i := 10) sc_law.nd rfl (Or.inl rfl) (C8.pe_c c_Lrow hr (by decide) rfl (pa_cons (pv 9) (pa_cons (C8.pe_c c_Lcell hr (by decide) rfl (pa_cons (pv 0) (pa_cons (pe_op op_add pe_int (pe_op op_mul pe_int (pv 2))) pa_nil))) (pa_cons (pv 8) (pa_cons (pv 1) pa_nil))))))
    (pss_cons (ps_expr (pe_bm PySem.F.plainAttrs_list PySem.F.slot_list_append PySem.F.type_list_append mt_append (pv 5) (pa_cons (C8.pe_c c_Lspread hr (by decide) rfl (pa_cons (pe_op op_fdiv (pv 9) pe_int) (pa_cons (pe_lc (own := [("_law_part", 13)]) (g := gName 13) rfl sc_law.nd (pi_list (pv 10)) (blkOk_by (own := [("_law_part", 13)]) (N := ["_law_script", "_law_scale_here", "_law_k", "_law_own", "_law_common", "_law_lines", "_law_gate", "_law_due", "_law_moment", "_law_cell_here", "_law_asked", "_law_found", "_law_bound_here", "_law_part"]) (sc := C8.fnScope s_law) (by decide +kernel)) (fun _ _ _ _ _ => pg_name (i := 13) sc_law.nd rfl (Or.inl rfl)) (fun _ _ _ _ _ => pts_nil) (fun _ _ _ _ _ => (pe_callTy call_strA (by rfl) T.b_str boot_str (pa_cons (pv 13) pa_nil)))) pa_nil))) pa_nil)))
    (pss_one (ps_expr (pe_bm PySem.F.plainAttrs_list PySem.F.slot_list_append PySem.F.type_list_append mt_append (pv 7) (pa_cons (C8.pe_c c_Lanswer hr (by decide) rfl (pa_cons (pv 6) (pa_cons (pv 10) pa_nil))) pa_nil)))))))))
  (pss_cons (ps_set (i := 11) sc_law.nd rfl (Or.inl rfl) (C8.pe_c c_play hr (by decide) rfl (pa_cons (pe_join pe_str (pv 5)) pa_nil)))
  (pss_one (ps_ret (pe_and (pe_callB call_isi (by rfl) T.b_isinstance boot_isinstance (pa_cons (pv 11) (pa_cons (pe_bltn (v := .ty "list") (by rfl) T.b_list boot_list rfl) pa_nil))) (pe_one (pe_cmpR (op_eqD hr.units) (pv 11) (pv 7) (nomark _)))))))))))))))), ?_⟩
  have cellAt : ∀ {σ : L2.St} {H : Hp} {te : TE} {i : Int}, σ[0]? = some (some (.ref a)) → SqL K H a (ns.map V.int) → Ev te σ H (.int i) → 0 ≤ i → Ev (tCall (spF (RCell K)) [] C8.E0 (tCons (tVar 0) (tCons te tNil))) σ H (.int (cellV ns i)) := fun h0 hS he hi => ev_callF (ea_cons (ev_var h0) (ea_cons he ea_nil)) (rCell hS hl hi)
  have sc := scale_in (cellV ns 0)
  refine q_asg (v := .int (scaleV (cellV ns 0))) (ev_callF (ea_cons (cellAt rfl hS ev_c (by decide)) ea_nil) (rOne (cellV_nn ns 0))) fun H1 e1 => ?_
  replace hS := ex_l e1 hS
  generalize scaleV (cellV ns 0) = sca at sc ⊢
  -- the bounds
  have bds : ∀ (σ : L2.St) (H1 : Hp) (b0 cn : Int), 0 ≤ b0 → 0 ≤ cn → SqL K H1 a (ns.map V.int) → σ[0]? = some (some (.ref a)) → σ[1]? = some (some (.int sca)) → σ.length = 14 → EvW (tLc (iRng1 (tCons (tOp (rI (fun _ j => 0 < j) fun i j => V.int (i % j)) (tCall (spF (RCell K)) [] C8.E0 (tCons (tVar 0) (tCons (tC (.int cn)) tNil))) (tC (.int 5))) tNil)) (gName 2) tYes (tCall (spW RBound) [] C8.E0 (tCons (tCall (spF (RCell K)) [] C8.E0 (tCons (tVar 0) (tCons (tOp (rI0 fun i j => V.int (i + j)) (tC (.int b0)) (tVar 2)) tNil))) (tCons (tVar 1) tNil))) [2]) σ H1
        fun v H2 => ∃ l xs, v = .ref l ∧ H2 l = some (.lst xs) ∧ xs.length = (cellV ns cn % 5).toNat ∧ ∀ i x, xs[i]? = some x → TupP (fun i => boundV (cellV ns (b0 + (i : Int))) sca) i x H2 := fun σ H1 b0 cn hb0 hcn hS h0 h1 hlen => by
    match σ, hlen with
    | [s0, s1, s2, s3, s4, s5, s6, s7, s8, s9, s10, s11, s12, s13], _ =>
    obtain rfl : s0 = some (.ref a) := by simpa using h0
    obtain rfl : s1 = some (.int sca) := by simpa using h1
    have n5 : 0 ≤ cellV ns cn % 5 ∧ cellV ns cn % 5 < 5 := ⟨Int.emod_nonneg _ (by decide), Int.emod_lt_of_pos _ (by decide)⟩
    refine evw_lcP (TupP fun i => boundV (cellV ns (b0 + (i : Int))) sca) TupP.mono TupP.nol (ei_r1 (n := cellV ns cn % 5) (ea_cons (ev_op (cellAt rfl hS ev_c hcn) ev_c (rv_I (by decide))) ea_nil) (by omega) (by omega)) (by omega) (fun x => rfl) (fun i H2 e2 hi => ?_)
    rw [Int.zero_add]
    exact evw_callW (ea_cons (cellAt (i := b0 + (i : Int)) rfl (ex_l e2 hS) (ev_op (z := .int (b0 + (i : Int))) ev_c (ev_var (i := 2) (v := .int (i : Int)) rfl) rv_I0) (by omega)) (ea_cons (ev_var (i := 1) (v := .int sca) rfl) ea_nil)) fun H3 e3 => ⟨_, sca, rfl, cellV_nn ns _, sc.1, sc.2, rfl⟩
  refine EvW.go (bds _ H1 1 5 (by decide) (by decide) hS rfl rfl rfl) fun v H2 e2 ⟨l3, xs, ev, hl3, hxl, hP⟩ => ?_
  subst ev
  replace hS := ex_l e2 hS
  obtain ⟨ts1, rfl, hB⟩ := tups_of hxl hP
  refine EvW.go (bds _ H2 6 10 (by decide) (by decide) hS rfl rfl rfl) fun v H3 e3 ⟨l4, xs2, ev, hl4, hxl2, hP2⟩ => ?_
  subst ev
  replace hS := ex_l e3 hS
  replace hl3 := e3 _ _ hl3
  replace hB := hB.mono e3
  obtain ⟨ts2, rfl, hB2⟩ := tups_of hxl2 hP2
  have okO : ∀ b ∈ (List.range (cellV ns 5 % 5).toNat).map (fun i : Nat => boundV (cellV ns (1 + (i : Int))) sca), b.ok := fun b hb => by
    obtain ⟨i, _, rfl⟩ := List.mem_map.mp hb
    exact bound_ok (cellV_nn ns _) sc.1 sc.2
  have okC : ∀ b ∈ (List.range (cellV ns 10 % 5).toNat).map (fun i : Nat => boundV (cellV ns (6 + (i : Int))) sca), b.ok := fun b hb => by
    obtain ⟨i, _, rfl⟩ := List.mem_map.mp hb
    exact bound_ok (cellV_nn ns _) sc.1 sc.2
  have lO : ((List.range (cellV ns 5 % 5).toNat).map (fun i : Nat => boundV (cellV ns (1 + (i : Int))) sca)).length ≤ 4 := by
    rw [List.length_map, List.length_range]
    omega
  have lC : ((List.range (cellV ns 10 % 5).toNat).map (fun i : Nat => boundV (cellV ns (6 + (i : Int))) sca)).length ≤ 4 := by
    rw [List.length_map, List.length_range]
    omega
  generalize (List.range (cellV ns 5 % 5).toNat).map (fun i : Nat => boundV (cellV ns (1 + (i : Int))) sca) = bO at hB okO lO
  generalize (List.range (cellV ns 10 % 5).toNat).map (fun i : Nat => boundV (cellV ns (6 + (i : Int))) sca) = bC at hB2 okC lC
  clear hP hP2 hxl hxl2 bds
  -- the rows of the bounds
  refine q_asgL (el_bwT (w0 := "own") (.inl rfl) (sq_of hl3) hB okO lO rfl (fun x => rfl) (fun x => rfl) (fun x y => rfl) fun x y => rfl) fun l5 H4 n5 e4 hl5 => ?_
  refine q_asgL (el_catN (ev_var (v := .ref l5) rfl) (el_bwT (w0 := "common") (.inr rfl) (sq_of (e4 _ _ hl4)) (hB2.mono e4) okC lC rfl (fun x => rfl) (fun x => rfl) (fun x y => rfl) fun x y => rfl) hl5 (by rw [List.length_map, List.length_map, List.length_map, List.length_map]; omega)) fun ll H5 nll e5 hll => ?_
  have exl : (bO.map (bwT "own")).map V.str ++ (bC.map (bwT "common")).map V.str = (bO.map (bwT "own") ++ bC.map (bwT "common")).map V.str := by rw [List.map_append]
  rw [exl] at hll
  have e35 := e4.trans e5
  -- the gate
  refine made2_go (evw_made (A := A) (j := 12) (sq_of (e35 _ _ hl3)) (hB.mono e35) okO lO (Ex.refl H5) rfl (fun x => rfl) fun x => rfl) (fun v H6 e6 _ => evw_made (A := A) (Hb := H5) (j := 12) (sq_of ((e35.trans e6) _ _ hl4)) (hB2.mono (e35.trans e6)) okC lC e6 rfl (fun x => rfl) fun x => rfl) fun v0 v1 H6 H7 e6 ⟨p3, ys, ev, np3, hp3, hy⟩ e7 ⟨p4, ys2, ev2, np4, hp4, hy2⟩ x dx nx nd ne => ?_
  subst ev ev2
  refine init_ok (K := K) nx nd (sq_of (e7 _ _ hp3)) (paired_imp hy fun _ _ z => z.mono e7) lO (sq_of hp4) hy2 lC fun H8 c0 e8 hg hys R0 => ⟨rfl, ?_⟩
  have e57 := e6.trans e7
  have hll7 := e57 _ _ hll
  have e48 : Ex H4 (del1 H7 ll) := del1_old (e5.trans e57) nll
  have tl0 : c0.τ ll = none := by
    cases z : c0.τ ll with
    | none => rfl
    | some u =>
      have := (R0.kd ll (by rw [z]; exact fun z => by cases z)).1
      rw [hll7] at this
      cases this
  have R1 : GateR A (del1 H7 ll) (gst0 bO bC) c0 H8 := R0.rebase del1_ex (by
    rw [hys]
    exact paired_imp (paired_imp hy fun _ _ z => z.mono e7) fun _ _ z => del1_bd hll7 z)
  have hS8 := ex_l (e4.trans e48) hS
  have hll8 := e8 _ _ hll7
  clear R0 hys hy hy2 hp3 hp4 np3 np4 nx nd ne e57 e48 hB hB2 hl3 hl4 hl5
  -- what is due
  refine q_asgL (el_rep (k := ((bO.length + bC.length : Nat) : Int)) (el_lst (vs := [.str "ok"]) (ea_cons ev_c ea_nil) (show 1 ≤ 100000 by decide)) (fun H9 e9 => ev_is (ev_lenL (K := K) (ev_var (v := .ref ll) rfl) (sq_of (e9 _ _ hll8))) (by rw [List.length_map, List.length_append, List.length_map, List.length_map])) (by omega) (by show 1 * _ ≤ _; omega)) fun ld H9 nld e9 hld => ?_
  rw [Int.toNat_natCast, oks] at hld
  refine q_asg ev_c fun H10 e10 => ?_
  have rb := run_bounds okO okC lO lC
  have e810 := e9.trans e10
  have W0 : GWf (gst0 bO bC) 0 := ⟨okO, okC, lO, lC, ⟨fun i h => absurd h (Nat.not_lt_zero _), fun i j _ h => absurd h (Nat.not_lt_zero _)⟩, fun _ h => (by cases h), Nat.zero_le _, fun p hp => (by cases hp), Nat.zero_le _, ⟨Int.le_refl _, (show (0 : Int) ≤ 1000000000000 by decide)⟩, List.nodup_nil⟩
  have L0 : L12 A (del1 H7 ll) x ll ld (gst0 bO bC) 0 c0 (bO.map (bwT "own") ++ bC.map (bwT "common")) (bO.map (bw "own") ++ bC.map (bw "common")) H10 := by
    refine ⟨R1.mono e810, hg, ⟨W0, CB.nil _ _, fun r hr => by cases hr⟩, paired_app (bw_items (.inl rfl) okO) (bw_items (.inr rfl) okC), e810 _ _ hll8, by rw [rb.1]; exact e10 _ _ hld, ne_of_none hll8 nld, tl0, ?_, del1_none, ?_, by rw [rb.2]; rfl, by rw [cntAll_app, bw_cnt (.inl rfl), bw_cnt (.inr rfl)]; exact Nat.le_refl _, by rw [List.length_append, List.length_map, List.length_map]; omega, by rw [rb.1, List.length_replicate]; omega, fun y hy => ?_⟩
    · cases z : c0.τ ld with
      | none => rfl
      | some u =>
        obtain ⟨_, o, h1, _⟩ := R1.kd ld (by rw [z]; exact fun z => by cases z)
        rw [nld] at h1
        cases h1
    · exact fresh_back R1.e0 nld
    · rw [rb.1] at hy
      rw [List.eq_of_mem_replicate hy]
      decide +kernel
  clear R1 W0 hg hll8 hld nld
  -- the rows
  refine q_forR1 (D := { nx := _, rt := Q }) (n := (ns.length : Int)) (ea_cons (ev_lenI (K := K) (ev_var (v := .ref a) rfl) (ex_l L0.R.e0 hS8)) ea_nil) (by omega) (fun i σ' H' => ∃ st c xs wss mo o2 o9 o10, σ' = [some (.ref a), some (.int sca), o2, some (.ref l3), some (.ref l4), some (.ref ll), some (.ref x), some (.ref ld), some (.int mo), o9, o10, none, none, none] ∧ L12 A (del1 H7 ll) x ll ld st i c xs wss H' ∧ 0 ≤ mo ∧ mo ≤ 1000000000000)
    (fun H11 e11 => ⟨_, _, _, _, 0, none, none, none, rfl, L0.mono e11, Int.le_refl _, by decide⟩) (fun i σ' H11 hi ⟨st, c, xs, wss, mo, o2, o9, o10, hσ, L, m0, m1⟩ => ?_) fun σ' H11 ⟨st, c, xs, wss, mo, o2, o9, o10, hσ, L, m0, m1⟩ => ?_
  · subst hσ
    have hi63 : i < 63 := by omega
    have hS11 := ex_l L.R.e0 hS8
    have at3 : ∀ {σ : L2.St} {H : Hp} (b : Int), σ[2]? = some (some (.int (i : Int))) → Ev (tOp (rI0 fun i j => V.int (i + j)) (tC (.int b)) (tOp (rI CMul fun i j => V.int (i * j)) (tC (.int 3)) (tVar 2))) σ H (.int (b + 3 * (i : Int))) := fun b h => ev_op ev_c (ev_op ev_c (ev_var (v := .int (i : Int)) h) (rv_I (.inl (by decide)))) rv_I0
    refine q_asg (D := { nx := _, rt := Q, bk := _, ct := _ }) (v := .int (cellV ns (20 + 3 * (i : Int)))) (cellAt rfl hS11 (at3 20 rfl) (by omega)) fun H12 e12 => ?_
    have c0' := cellV_nn ns (20 + 3 * (i : Int))
    generalize cellV ns (20 + 3 * (i : Int)) = ce at c0' ⊢
    have gp := gap_in (cellV ns (21 + 3 * (i : Int))) (cellV_nn ns _)
    refine q_asg (D := { nx := _, rt := Q, bk := _, ct := _ }) (v := .int (min 1000000000000 (mo + gapV (cellV ns (21 + 3 * (i : Int)))))) (ev_min ten12 (ev_op (ev_var (v := .int mo) rfl) (ev_callF (ea_cons (cellAt rfl (ex_l e12 hS11) (at3 21 rfl) (by omega)) ea_nil) (rOne (cellV_nn ns _))) rv_I0)) fun H13 e13 => ?_
    generalize gapV (cellV ns (21 + 3 * (i : Int))) = ga at gp ⊢
    obtain ⟨mo2, hmo2⟩ : ∃ z, z = min 1000000000000 (mo + ga) := ⟨_, rfl⟩
    rw [← hmo2]
    have m2 : 0 ≤ mo2 ∧ mo2 ≤ 1000000000000 := by omega
    clear hmo2 gp
    have e113 := e12.trans e13
    refine EvW.go (D := { nx := _, rt := Q, bk := _, ct := _ }) (evw_callW (ea_cons (ev_var (v := .int ce) rfl) (ea_cons (cellAt rfl (ex_l e113 hS11) (at3 22 rfl) (by omega)) (ea_cons (ev_var (v := .int mo2) rfl) (ea_cons (ev_var (v := .int sca) rfl) ea_nil)))) fun H14 e14 => ⟨ce, cellV ns (22 + 3 * (i : Int)), mo2, sca, H13, rfl, c0', cellV_nn ns _, m2.1, m2.2, sc.1, sc.2, e14, rfl⟩) fun v H14 e14 ⟨la, ask, ev, na, ok, hla⟩ => ?_
    subst ev
    have L14 := L.mono (e113.trans e14)
    have nla : la ≠ ll := fun z => by
      have := (L.mono e113).hl
      rw [← z, na] at this
      cases this
    have el := el_strs (wi := iList K (tVar 10)) (xs := ask.vs) (j := 13) (σ := [some (.ref a), some (.int sca), some (.int (i : Int)), some (.ref l3), some (.ref l4), some (.ref ll), some (.ref x), some (.ref ld), some (.int mo2), some (.int ce), some (.ref la), none, none, none]) (ei_l (K := K) .non (ev_var rfl) (sq_of hla)) (ask_len2 ask) (ask_able ok) (fun x => rfl) fun x => rfl
    rw [ask_strs] at el
    refine L14.turn (D := { nx := _, rt := Q, bk := _, ct := _ }) hi63 ok hla nla rfl rfl rfl (ev_var rfl) (evw_vL (x := .int (ce / 1296)) (ev_op (ev_var rfl) ev_c (rv_I ⟨by decide, by decide⟩)) el fun p H15 e15 hp => ⟨ce / 1296, p, ask, rfl, by omega, ok, hp, rfl⟩) fun c' xs' wss' H' L' => ?_
    exact ⟨_, _, _, _, mo2, _, _, _, rfl, L', m2.1, m2.2⟩
  · subst hσ
    have hk : (ns.length : Int).toNat = ns.length := Int.toNat_natCast _
    rw [hk] at L
    have xl := L.len
    obtain ⟨t1, t2, t3, t4⟩ := play_items L.I (by omega)
    have sm := sum_le (fun y : Str => y.length) 400 xs (items_len L.I)
    have sl : xs.length * 400 ≤ 71 * 400 := Nat.mul_le_mul_right _ (by omega)
    have l1 : ("\n" : Str).length = 1 := by decide +kernel
    refine q_asgL (D := { nx := _, rt := Q }) (xs := (runR pst0 wss).map V.str) (el_call (ea_cons (ev_joinP (K := K) ev_c (ev_var rfl) L.hl (by rw [l1]; have : (xs.map (·.length)).sum ≤ xs.length * 400 := sm; omega)) ea_nil) fun H12 e12 Q' q' E' => ⟨_, rfl, t1, t2, t3, by rw [t4]; have := L.cnt; omega, fun l H13 nl e13 hl => q' l H13 nl e13 (by
      have : playT (Txt.lines (Txt.join ("\n" : Str) xs)) = runR pst0 wss := by
        unfold playT
        rw [t4]
      rw [← this]
      exact hl)⟩) fun lf H12 nlf e12 hlf => ?_
    exact s_ret (D := { nx := _, rt := Q }) (ev_is (ev_andV (a := true) (b := true) (ev_isi (ev_var (v := .ref lf) rfl) ev_c (.ty "list") (fun H13 e13 => .base (.lst (e13 _ _ hlf))) (kit_ty (by decide +kernel))) fun _ => ev_op (ev_var (v := .ref lf) rfl) (ev_var (v := .ref ld) rfl) (rv_eqStrs L.sok hlf (e12 _ _ L.hd))) rfl) fun H13 _ => q H13
end
section
variable {P : Program} {w : World} {K : PySem.W.Frag} {mg : Str → Option Value} {base : Heap} {A : GA} {cs : Nat → Addr}
theorem ok_law {f : Addr} {fd : FuncData} (T : Blt mg) (F : C8.Fun K "law" "law" s_law f fd)
    (c_Lcell : C8.Cal P w K mg base 1 "_law_cell" (spF (RCell K)) []) (c_Lscale : C8.Cal P w K mg base 1 "_law_scale" (spF (R1 (fun c => 0 ≤ c) scaleV)) []) (c_Lgap : C8.Cal P w K mg base 1 "_law_gap" (spF (R1 (fun c => 0 ≤ c) gapV)) [])
    (c_Lbound : C8.Cal P w K mg base 1 "_law_bound" (spW RBound) []) (c_Lmade : C8.Cal P w K mg base 4 "_law_made" (spW (RMade A.J A.W)) []) (m_Gate : MakX P w K mg base 5 "Gate" A.gt (spGInit K A (cs 0)) ["self", "own", "common"]) (c_Lrow : C8.Cal P w K mg base 2 "_law_row" (spW RRow12) []) (c_Lspread : C8.Cal P w K mg base 1 "_law_spread" (spW RSpread12) []) (c_Lanswer : C8.Cal P w K mg base 8 "_law_answer" (spAns12 A) []) (c_play : C8.Cal P w K mg base 11 "play" spPlay []) : FnOk P w K mg base CX0 12 f fd ["_law_script"] (spLaw K) := by
  refine C8.fn0 F sc_law (fun vs H Q E h => ?_) (fun cdv Ar outer s H vs Q E hr h => ?_)
  · obtain ⟨a, ns, rfl, _⟩ := h
    rfl
  · obtain ⟨a, ns, rfl, hS, hl, q⟩ := h
    exact law_body T hr c_Lcell c_Lscale c_Lgap c_Lbound c_Lmade m_Gate c_Lrow c_Lspread c_Lanswer c_play hS hl q
end

section
theorem all_mk {l : PySem.W.OpenLaw} {w : World} {K : PySem.W.Frag} {h : Heap} {mg : Str → Option Value} {fa : Addr} (X : K.In h) (G : h.Ns mainGlobals mg) (hfa : mg "law" = some (.ref fa))
    {t_LARGEST_SIZE : Tok}
    {t_LARGEST_FLOW : Tok}
    {t_LARGEST_MOST : Tok}
    {t_LARGEST_SPAN : Tok}
    {t_MOST_BOUNDS : Tok}
    {t_LARGEST_MOMENT : Tok}
    {t_LARGEST_COST : Tok}
    {t_LONGEST_NAME : Tok}
    {t_MOST_FIGURES : Tok}
    {t_FIGURES : Tok}
    {C_JarMeter : Addr}
    {od1 an1 : Option Addr} {sl1 : Array (Option Value)} {oc1 kV1 dc1 pm1 cd1 ct1 : Value} {f1 : Addr}
    {od2 an2 : Option Addr} {sl2 : Array (Option Value)} {oc2 kV2 dc2 pm2 cd2 ct2 : Value} {f2 : Addr}
    {od3 an3 : Option Addr} {sl3 : Array (Option Value)} {oc3 kV3 dc3 pm3 cd3 ct3 : Value} {f3 : Addr}
    {od4 an4 : Option Addr} {sl4 : Array (Option Value)} {oc4 kV4 dc4 pm4 cd4 ct4 : Value} {f4 : Addr}
    {od5 an5 : Option Addr} {sl5 : Array (Option Value)} {oc5 kV5 dc5 pm5 cd5 ct5 : Value} {f5 : Addr}
    {od6 an6 : Option Addr} {sl6 : Array (Option Value)} {oc6 kV6 dc6 pm6 cd6 ct6 : Value} {f6 : Addr}
    {C_WindowMeter : Addr}
    {od7 an7 : Option Addr} {sl7 : Array (Option Value)} {oc7 kV7 dc7 pm7 cd7 ct7 : Value} {f7 : Addr}
    {od8 an8 : Option Addr} {sl8 : Array (Option Value)} {oc8 kV8 dc8 pm8 cd8 ct8 : Value} {f8 : Addr}
    {od9 an9 : Option Addr} {sl9 : Array (Option Value)} {oc9 kV9 dc9 pm9 cd9 ct9 : Value} {f9 : Addr}
    {od10 an10 : Option Addr} {sl10 : Array (Option Value)} {oc10 kV10 dc10 pm10 cd10 ct10 : Value} {f10 : Addr}
    {od11 an11 : Option Addr} {sl11 : Array (Option Value)} {oc11 kV11 dc11 pm11 cd11 ct11 : Value} {f11 : Addr}
    {od12 an12 : Option Addr} {sl12 : Array (Option Value)} {oc12 kV12 dc12 pm12 cd12 ct12 : Value} {f12 : Addr}
    {C_Jar : Addr}
    {od13 an13 : Option Addr} {sl13 : Array (Option Value)} {oc13 kV13 dc13 pm13 cd13 ct13 : Value} {f13 : Addr}
    {od14 an14 : Option Addr} {sl14 : Array (Option Value)} {oc14 kV14 dc14 pm14 cd14 ct14 : Value} {f14 : Addr}
    {C_Window : Addr}
    {od15 an15 : Option Addr} {sl15 : Array (Option Value)} {oc15 kV15 dc15 pm15 cd15 ct15 : Value} {f15 : Addr}
    {od16 an16 : Option Addr} {sl16 : Array (Option Value)} {oc16 kV16 dc16 pm16 cd16 ct16 : Value} {f16 : Addr}
    {C_Gate : Addr}
    {T17 : Addr} {ocT17 : Value} {odT17 : Option Addr} {mT17 : Nat} {slT17 : Array (Option Value)}
    {od17 an17 : Option Addr} {sl17 : Array (Option Value)} {oc17 kV17 dc17 pm17 cd17 ct17 : Value} {f17 : Addr}
    {od18 an18 : Option Addr} {sl18 : Array (Option Value)} {oc18 kV18 dc18 pm18 cd18 ct18 : Value} {f18 : Addr}
    {od19 an19 : Option Addr} {sl19 : Array (Option Value)} {oc19 kV19 dc19 pm19 cd19 ct19 : Value} {f19 : Addr}
    {od20 an20 : Option Addr} {sl20 : Array (Option Value)} {oc20 kV20 dc20 pm20 cd20 ct20 : Value} {f20 : Addr}
    {od21 an21 : Option Addr} {sl21 : Array (Option Value)} {oc21 kV21 dc21 pm21 cd21 ct21 : Value} {f21 : Addr}
    {od22 an22 : Option Addr} {sl22 : Array (Option Value)} {oc22 kV22 dc22 pm22 cd22 ct22 : Value} {f22 : Addr}
    {od23 an23 : Option Addr} {sl23 : Array (Option Value)} {oc23 kV23 dc23 pm23 cd23 ct23 : Value} {f23 : Addr}
    {od24 an24 : Option Addr} {sl24 : Array (Option Value)} {oc24 kV24 dc24 pm24 cd24 ct24 : Value} {f24 : Addr}
    {C_Player : Addr}
    {od25 an25 : Option Addr} {sl25 : Array (Option Value)} {oc25 kV25 dc25 pm25 cd25 ct25 : Value} {f25 : Addr}
    {od26 an26 : Option Addr} {sl26 : Array (Option Value)} {oc26 kV26 dc26 pm26 cd26 ct26 : Value} {f26 : Addr}
    {od27 an27 : Option Addr} {sl27 : Array (Option Value)} {oc27 kV27 dc27 pm27 cd27 ct27 : Value} {f27 : Addr}
    {od28 an28 : Option Addr} {sl28 : Array (Option Value)} {oc28 kV28 dc28 pm28 cd28 ct28 : Value} {f28 : Addr}
    {od29 an29 : Option Addr} {sl29 : Array (Option Value)} {oc29 kV29 dc29 pm29 cd29 ct29 : Value} {f29 : Addr}
    {od30 an30 : Option Addr} {sl30 : Array (Option Value)} {oc30 kV30 dc30 pm30 cd30 ct30 : Value} {f30 : Addr}
    {cG Cx0 Cx1 Cx2 Cx3 Cx4 Cx5 : Addr}
    {od31 an31 : Option Addr} {sl31 : Array (Option Value)} {oc31 kV31 dc31 pm31 cd31 ct31 : Value} {f31 : Addr}
    {od32 an32 : Option Addr} {sl32 : Array (Option Value)} {oc32 kV32 dc32 pm32 cd32 ct32 : Value} {f32 : Addr}
    {od33 an33 : Option Addr} {sl33 : Array (Option Value)} {oc33 kV33 dc33 pm33 cd33 ct33 : Value} {f33 : Addr}
    {od34 an34 : Option Addr} {sl34 : Array (Option Value)} {oc34 kV34 dc34 pm34 cd34 ct34 : Value} {f34 : Addr}
    {od35 an35 : Option Addr} {sl35 : Array (Option Value)} {oc35 kV35 dc35 pm35 cd35 ct35 : Value} {f35 : Addr}
    {od36 an36 : Option Addr} {sl36 : Array (Option Value)} {oc36 kV36 dc36 pm36 cd36 ct36 : Value} {f36 : Addr}
    {od37 an37 : Option Addr} {sl37 : Array (Option Value)} {oc37 kV37 dc37 pm37 cd37 ct37 : Value} {f37 : Addr}
    {od38 an38 : Option Addr} {sl38 : Array (Option Value)} {oc38 kV38 dc38 pm38 cd38 ct38 : Value} {f38 : Addr}
    {od39 an39 : Option Addr} {sl39 : Array (Option Value)} {oc39 kV39 dc39 pm39 cd39 ct39 : Value} {f39 : Addr}
    {od40 an40 : Option Addr} {sl40 : Array (Option Value)} {oc40 kV40 dc40 pm40 cd40 ct40 : Value} {f40 : Addr}
    {od41 an41 : Option Addr} {sl41 : Array (Option Value)} {oc41 kV41 dc41 pm41 cd41 ct41 : Value} {f41 : Addr}
    {od42 an42 : Option Addr} {sl42 : Array (Option Value)} {oc42 kV42 dc42 pm42 cd42 ct42 : Value} {f42 : Addr}
    {od43 an43 : Option Addr} {sl43 : Array (Option Value)} {oc43 kV43 dc43 pm43 cd43 ct43 : Value} {f43 : Addr}
    {od44 an44 : Option Addr} {sl44 : Array (Option Value)} {oc44 kV44 dc44 pm44 cd44 ct44 : Value} {f44 : Addr}
    {od45 an45 : Option Addr} {sl45 : Array (Option Value)} {oc45 kV45 dc45 pm45 cd45 ct45 : Value} {f45 : Addr}
    {od46 an46 : Option Addr} {sl46 : Array (Option Value)} {oc46 kV46 dc46 pm46 cd46 ct46 : Value} {f46 : Addr}
    {od47 an47 : Option Addr} {sl47 : Array (Option Value)} {oc47 kV47 dc47 pm47 cd47 ct47 : Value} {f47 : Addr}
    {od48 an48 : Option Addr} {sl48 : Array (Option Value)} {oc48 kV48 dc48 pm48 cd48 ct48 : Value} {f48 : Addr}
    {od49 an49 : Option Addr} {sl49 : Array (Option Value)} {oc49 kV49 dc49 pm49 cd49 ct49 : Value} {f49 : Addr}
    {od50 an50 : Option Addr} {sl50 : Array (Option Value)} {oc50 kV50 dc50 pm50 cd50 ct50 : Value} {f50 : Addr}
    {od51 an51 : Option Addr} {sl51 : Array (Option Value)} {oc51 kV51 dc51 pm51 cd51 ct51 : Value} {f51 : Addr}
    {od52 an52 : Option Addr} {sl52 : Array (Option Value)} {oc52 kV52 dc52 pm52 cd52 ct52 : Value} {f52 : Addr}
    {od53 an53 : Option Addr} {sl53 : Array (Option Value)} {oc53 kV53 dc53 pm53 cd53 ct53 : Value} {f53 : Addr}
    {od54 an54 : Option Addr} {sl54 : Array (Option Value)} {oc54 kV54 dc54 pm54 cd54 ct54 : Value} {f54 : Addr}
    {od55 an55 : Option Addr} {sl55 : Array (Option Value)} {oc55 kV55 dc55 pm55 cd55 ct55 : Value} {f55 : Addr}
    {od56 an56 : Option Addr} {sl56 : Array (Option Value)} {oc56 kV56 dc56 pm56 cd56 ct56 : Value} {f56 : Addr}
    {od57 an57 : Option Addr} {sl57 : Array (Option Value)} {oc57 kV57 dc57 pm57 cd57 ct57 : Value} {f57 : Addr}
    (z_len : PySem.W.nsIn K mainGlobals "len" = some none)
    (z_range : PySem.W.nsIn K mainGlobals "range" = some none)
    (z_max : PySem.W.nsIn K mainGlobals "max" = some none)
    (z_min : PySem.W.nsIn K mainGlobals "min" = some none)
    (z_int : PySem.W.nsIn K mainGlobals "int" = some none)
    (z_tuple : PySem.W.nsIn K mainGlobals "tuple" = some none)
    (z_list : PySem.W.nsIn K mainGlobals "list" = some none)
    (z_isinstance : PySem.W.nsIn K mainGlobals "isinstance" = some none)
    (z_enumerate : PySem.W.nsIn K mainGlobals "enumerate" = some none)
    (z_ValueError : PySem.W.nsIn K mainGlobals "ValueError" = some none)
    (z_super : PySem.W.nsIn K mainGlobals "super" = some none)
    (z_all : PySem.W.nsIn K mainGlobals "all" = some none)
    (z_sorted : PySem.W.nsIn K mainGlobals "sorted" = some none)
    (z_sum : PySem.W.nsIn K mainGlobals "sum" = some none)
    (z_str : PySem.W.nsIn K mainGlobals "str" = some none)
    (z_bool : PySem.W.nsIn K mainGlobals "bool" = some none)
    (g_LARGEST_SIZE : PySem.W.nsIn K mainGlobals "LARGEST_SIZE" = some (some (.int 1000000000000000 t_LARGEST_SIZE)))
    (g_LARGEST_FLOW : PySem.W.nsIn K mainGlobals "LARGEST_FLOW" = some (some (.int 1000000000 t_LARGEST_FLOW)))
    (g_LARGEST_MOST : PySem.W.nsIn K mainGlobals "LARGEST_MOST" = some (some (.int 1000000000000000 t_LARGEST_MOST)))
    (g_LARGEST_SPAN : PySem.W.nsIn K mainGlobals "LARGEST_SPAN" = some (some (.int 1000000000000 t_LARGEST_SPAN)))
    (g_MOST_BOUNDS : PySem.W.nsIn K mainGlobals "MOST_BOUNDS" = some (some (.int 4 t_MOST_BOUNDS)))
    (g_LARGEST_MOMENT : PySem.W.nsIn K mainGlobals "LARGEST_MOMENT" = some (some (.int 1000000000000 t_LARGEST_MOMENT)))
    (g_LARGEST_COST : PySem.W.nsIn K mainGlobals "LARGEST_COST" = some (some (.int 1000000000 t_LARGEST_COST)))
    (g_LONGEST_NAME : PySem.W.nsIn K mainGlobals "LONGEST_NAME" = some (some (.int 8 t_LONGEST_NAME)))
    (g_MOST_FIGURES : PySem.W.nsIn K mainGlobals "MOST_FIGURES" = some (some (.int 16 t_MOST_FIGURES)))
    (g_FIGURES : PySem.W.nsIn K mainGlobals "FIGURES" = some (some (.str "0123456789" t_FIGURES)))
    (aC_JarMeter : PySem.W.nsIn K mainGlobals "JarMeter" = some (some (.ref C_JarMeter)))
    (pg_JarMeter : PySem.W.plainGet K C_JarMeter Str.empty = true)
    (hd_JarMeter : PySem.W.hasDictIn K C_JarMeter = true)
    (po_JarMeter : PySem.W.plainOver K C_JarMeter = true)
    (sa_JarMeter : PySem.W.findIn K (.ref C_JarMeter) "__setattr__" = some (some (.builtin "object.__setattr__")))
    (mk_JarMeter : PySem.W.makesIn K C_JarMeter = true)
    (kc_JarMeter : PySem.W.keepIn K (.ref C_JarMeter) = true)
    (n_JarMeter_0 : PySem.W.findIn K (.ref C_JarMeter) "_size" = some none)
    (n_JarMeter_1 : PySem.W.findIn K (.ref C_JarMeter) "_flow" = some none)
    (n_JarMeter_2 : PySem.W.findIn K (.ref C_JarMeter) "_level" = some none)
    (n_JarMeter_3 : PySem.W.findIn K (.ref C_JarMeter) "_moment" = some none)
    (a1 : PySem.W.findIn K (.ref C_JarMeter) "__init__" = some (some (.ref f1)))
    (l1 : K.lookup f1 = some ⟨oc1, od1, .func (PySem.W.fnOf "__init__" "JarMeter.__init__" (C8.fnArgs s_JarMeter_init) (C8.fnBody s_JarMeter_init) (C8.fnScope s_JarMeter_init) .none kV1 dc1 pm1 an1 cd1 ct1), sl1⟩)
    (c1 : PySem.W.codeIn K cd1 "JarMeter.__init__" = true)
    (k1 : PySem.W.keepIn K (.ref f1) = true)
    (i1 : PySem.W.isFn K (.ref f1) = true)
    (a2 : PySem.W.findIn K (.ref C_JarMeter) "can" = some (some (.ref f2)))
    (l2 : K.lookup f2 = some ⟨oc2, od2, .func (PySem.W.fnOf "can" "JarMeter.can" (C8.fnArgs s_JarMeter_can) (C8.fnBody s_JarMeter_can) (C8.fnScope s_JarMeter_can) .none kV2 dc2 pm2 an2 cd2 ct2), sl2⟩)
    (c2 : PySem.W.codeIn K cd2 "JarMeter.can" = true)
    (k2 : PySem.W.keepIn K (.ref f2) = true)
    (i2 : PySem.W.isFn K (.ref f2) = true)
    (a3 : PySem.W.findIn K (.ref C_JarMeter) "wait" = some (some (.ref f3)))
    (l3 : K.lookup f3 = some ⟨oc3, od3, .func (PySem.W.fnOf "wait" "JarMeter.wait" (C8.fnArgs s_JarMeter_wait) (C8.fnBody s_JarMeter_wait) (C8.fnScope s_JarMeter_wait) .none kV3 dc3 pm3 an3 cd3 ct3), sl3⟩)
    (c3 : PySem.W.codeIn K cd3 "JarMeter.wait" = true)
    (k3 : PySem.W.keepIn K (.ref f3) = true)
    (i3 : PySem.W.isFn K (.ref f3) = true)
    (a4 : PySem.W.findIn K (.ref C_JarMeter) "take" = some (some (.ref f4)))
    (l4 : K.lookup f4 = some ⟨oc4, od4, .func (PySem.W.fnOf "take" "JarMeter.take" (C8.fnArgs s_JarMeter_take) (C8.fnBody s_JarMeter_take) (C8.fnScope s_JarMeter_take) .none kV4 dc4 pm4 an4 cd4 ct4), sl4⟩)
    (c4 : PySem.W.codeIn K cd4 "JarMeter.take" = true)
    (k4 : PySem.W.keepIn K (.ref f4) = true)
    (i4 : PySem.W.isFn K (.ref f4) = true)
    (a5 : PySem.W.findIn K (.ref C_JarMeter) "kept" = some (some (.ref f5)))
    (l5 : K.lookup f5 = some ⟨oc5, od5, .func (PySem.W.fnOf "kept" "JarMeter.kept" (C8.fnArgs s_JarMeter_kept) (C8.fnBody s_JarMeter_kept) (C8.fnScope s_JarMeter_kept) .none kV5 dc5 pm5 an5 cd5 ct5), sl5⟩)
    (c5 : PySem.W.codeIn K cd5 "JarMeter.kept" = true)
    (k5 : PySem.W.keepIn K (.ref f5) = true)
    (i5 : PySem.W.isFn K (.ref f5) = true)
    (a6 : PySem.W.findIn K (.ref C_JarMeter) "_level_at" = some (some (.ref f6)))
    (l6 : K.lookup f6 = some ⟨oc6, od6, .func (PySem.W.fnOf "_level_at" "JarMeter._level_at" (C8.fnArgs s_JarMeter__level_at) (C8.fnBody s_JarMeter__level_at) (C8.fnScope s_JarMeter__level_at) .none kV6 dc6 pm6 an6 cd6 ct6), sl6⟩)
    (c6 : PySem.W.codeIn K cd6 "JarMeter._level_at" = true)
    (k6 : PySem.W.keepIn K (.ref f6) = true)
    (i6 : PySem.W.isFn K (.ref f6) = true)
    (aC_WindowMeter : PySem.W.nsIn K mainGlobals "WindowMeter" = some (some (.ref C_WindowMeter)))
    (pg_WindowMeter : PySem.W.plainGet K C_WindowMeter Str.empty = true)
    (hd_WindowMeter : PySem.W.hasDictIn K C_WindowMeter = true)
    (po_WindowMeter : PySem.W.plainOver K C_WindowMeter = true)
    (sa_WindowMeter : PySem.W.findIn K (.ref C_WindowMeter) "__setattr__" = some (some (.builtin "object.__setattr__")))
    (mk_WindowMeter : PySem.W.makesIn K C_WindowMeter = true)
    (kc_WindowMeter : PySem.W.keepIn K (.ref C_WindowMeter) = true)
    (n_WindowMeter_0 : PySem.W.findIn K (.ref C_WindowMeter) "_most" = some none)
    (n_WindowMeter_1 : PySem.W.findIn K (.ref C_WindowMeter) "_span" = some none)
    (n_WindowMeter_2 : PySem.W.findIn K (.ref C_WindowMeter) "_rows" = some none)
    (n_WindowMeter_3 : PySem.W.findIn K (.ref C_WindowMeter) "_gone" = some none)
    (n_WindowMeter_4 : PySem.W.findIn K (.ref C_WindowMeter) "_total" = some none)
    (a7 : PySem.W.findIn K (.ref C_WindowMeter) "__init__" = some (some (.ref f7)))
    (l7 : K.lookup f7 = some ⟨oc7, od7, .func (PySem.W.fnOf "__init__" "WindowMeter.__init__" (C8.fnArgs s_WindowMeter_init) (C8.fnBody s_WindowMeter_init) (C8.fnScope s_WindowMeter_init) .none kV7 dc7 pm7 an7 cd7 ct7), sl7⟩)
    (c7 : PySem.W.codeIn K cd7 "WindowMeter.__init__" = true)
    (k7 : PySem.W.keepIn K (.ref f7) = true)
    (i7 : PySem.W.isFn K (.ref f7) = true)
    (a8 : PySem.W.findIn K (.ref C_WindowMeter) "can" = some (some (.ref f8)))
    (l8 : K.lookup f8 = some ⟨oc8, od8, .func (PySem.W.fnOf "can" "WindowMeter.can" (C8.fnArgs s_WindowMeter_can) (C8.fnBody s_WindowMeter_can) (C8.fnScope s_WindowMeter_can) .none kV8 dc8 pm8 an8 cd8 ct8), sl8⟩)
    (c8 : PySem.W.codeIn K cd8 "WindowMeter.can" = true)
    (k8 : PySem.W.keepIn K (.ref f8) = true)
    (i8 : PySem.W.isFn K (.ref f8) = true)
    (a9 : PySem.W.findIn K (.ref C_WindowMeter) "wait" = some (some (.ref f9)))
    (l9 : K.lookup f9 = some ⟨oc9, od9, .func (PySem.W.fnOf "wait" "WindowMeter.wait" (C8.fnArgs s_WindowMeter_wait) (C8.fnBody s_WindowMeter_wait) (C8.fnScope s_WindowMeter_wait) .none kV9 dc9 pm9 an9 cd9 ct9), sl9⟩)
    (c9 : PySem.W.codeIn K cd9 "WindowMeter.wait" = true)
    (k9 : PySem.W.keepIn K (.ref f9) = true)
    (i9 : PySem.W.isFn K (.ref f9) = true)
    (a10 : PySem.W.findIn K (.ref C_WindowMeter) "take" = some (some (.ref f10)))
    (l10 : K.lookup f10 = some ⟨oc10, od10, .func (PySem.W.fnOf "take" "WindowMeter.take" (C8.fnArgs s_WindowMeter_take) (C8.fnBody s_WindowMeter_take) (C8.fnScope s_WindowMeter_take) .none kV10 dc10 pm10 an10 cd10 ct10), sl10⟩)
    (c10 : PySem.W.codeIn K cd10 "WindowMeter.take" = true)
    (k10 : PySem.W.keepIn K (.ref f10) = true)
    (i10 : PySem.W.isFn K (.ref f10) = true)
    (a11 : PySem.W.findIn K (.ref C_WindowMeter) "kept" = some (some (.ref f11)))
    (l11 : K.lookup f11 = some ⟨oc11, od11, .func (PySem.W.fnOf "kept" "WindowMeter.kept" (C8.fnArgs s_WindowMeter_kept) (C8.fnBody s_WindowMeter_kept) (C8.fnScope s_WindowMeter_kept) .none kV11 dc11 pm11 an11 cd11 ct11), sl11⟩)
    (c11 : PySem.W.codeIn K cd11 "WindowMeter.kept" = true)
    (k11 : PySem.W.keepIn K (.ref f11) = true)
    (i11 : PySem.W.isFn K (.ref f11) = true)
    (a12 : PySem.W.findIn K (.ref C_WindowMeter) "_forget" = some (some (.ref f12)))
    (l12 : K.lookup f12 = some ⟨oc12, od12, .func (PySem.W.fnOf "_forget" "WindowMeter._forget" (C8.fnArgs s_WindowMeter__forget) (C8.fnBody s_WindowMeter__forget) (C8.fnScope s_WindowMeter__forget) .none kV12 dc12 pm12 an12 cd12 ct12), sl12⟩)
    (c12 : PySem.W.codeIn K cd12 "WindowMeter._forget" = true)
    (k12 : PySem.W.keepIn K (.ref f12) = true)
    (i12 : PySem.W.isFn K (.ref f12) = true)
    (aC_Jar : PySem.W.nsIn K mainGlobals "Jar" = some (some (.ref C_Jar)))
    (pg_Jar : PySem.W.plainGet K C_Jar Str.empty = true)
    (hd_Jar : PySem.W.hasDictIn K C_Jar = true)
    (po_Jar : PySem.W.plainOver K C_Jar = true)
    (sa_Jar : PySem.W.findIn K (.ref C_Jar) "__setattr__" = some (some (.builtin "object.__setattr__")))
    (mk_Jar : PySem.W.makesIn K C_Jar = true)
    (kc_Jar : PySem.W.keepIn K (.ref C_Jar) = true)
    (n_Jar_0 : PySem.W.findIn K (.ref C_Jar) "_size" = some none)
    (n_Jar_1 : PySem.W.findIn K (.ref C_Jar) "_flow" = some none)
    (a13 : PySem.W.findIn K (.ref C_Jar) "__init__" = some (some (.ref f13)))
    (l13 : K.lookup f13 = some ⟨oc13, od13, .func (PySem.W.fnOf "__init__" "Jar.__init__" (C8.fnArgs s_Jar_init) (C8.fnBody s_Jar_init) (C8.fnScope s_Jar_init) .none kV13 dc13 pm13 an13 cd13 ct13), sl13⟩)
    (c13 : PySem.W.codeIn K cd13 "Jar.__init__" = true)
    (k13 : PySem.W.keepIn K (.ref f13) = true)
    (i13 : PySem.W.isFn K (.ref f13) = true)
    (a14 : PySem.W.findIn K (.ref C_Jar) "meter" = some (some (.ref f14)))
    (l14 : K.lookup f14 = some ⟨oc14, od14, .func (PySem.W.fnOf "meter" "Jar.meter" (C8.fnArgs s_Jar_meter) (C8.fnBody s_Jar_meter) (C8.fnScope s_Jar_meter) .none kV14 dc14 pm14 an14 cd14 ct14), sl14⟩)
    (c14 : PySem.W.codeIn K cd14 "Jar.meter" = true)
    (k14 : PySem.W.keepIn K (.ref f14) = true)
    (i14 : PySem.W.isFn K (.ref f14) = true)
    (aC_Window : PySem.W.nsIn K mainGlobals "Window" = some (some (.ref C_Window)))
    (pg_Window : PySem.W.plainGet K C_Window Str.empty = true)
    (hd_Window : PySem.W.hasDictIn K C_Window = true)
    (po_Window : PySem.W.plainOver K C_Window = true)
    (sa_Window : PySem.W.findIn K (.ref C_Window) "__setattr__" = some (some (.builtin "object.__setattr__")))
    (mk_Window : PySem.W.makesIn K C_Window = true)
    (kc_Window : PySem.W.keepIn K (.ref C_Window) = true)
    (n_Window_0 : PySem.W.findIn K (.ref C_Window) "_most" = some none)
    (n_Window_1 : PySem.W.findIn K (.ref C_Window) "_span" = some none)
    (a15 : PySem.W.findIn K (.ref C_Window) "__init__" = some (some (.ref f15)))
    (l15 : K.lookup f15 = some ⟨oc15, od15, .func (PySem.W.fnOf "__init__" "Window.__init__" (C8.fnArgs s_Window_init) (C8.fnBody s_Window_init) (C8.fnScope s_Window_init) .none kV15 dc15 pm15 an15 cd15 ct15), sl15⟩)
    (c15 : PySem.W.codeIn K cd15 "Window.__init__" = true)
    (k15 : PySem.W.keepIn K (.ref f15) = true)
    (i15 : PySem.W.isFn K (.ref f15) = true)
    (a16 : PySem.W.findIn K (.ref C_Window) "meter" = some (some (.ref f16)))
    (l16 : K.lookup f16 = some ⟨oc16, od16, .func (PySem.W.fnOf "meter" "Window.meter" (C8.fnArgs s_Window_meter) (C8.fnBody s_Window_meter) (C8.fnScope s_Window_meter) .none kV16 dc16 pm16 an16 cd16 ct16), sl16⟩)
    (c16 : PySem.W.codeIn K cd16 "Window.meter" = true)
    (k16 : PySem.W.keepIn K (.ref f16) = true)
    (i16 : PySem.W.isFn K (.ref f16) = true)
    (aC_Gate : PySem.W.nsIn K mainGlobals "Gate" = some (some (.ref C_Gate)))
    (pg_Gate : PySem.W.plainGet K C_Gate Str.empty = true)
    (hd_Gate : PySem.W.hasDictIn K C_Gate = true)
    (po_Gate : PySem.W.plainOver K C_Gate = true)
    (sa_Gate : PySem.W.findIn K (.ref C_Gate) "__setattr__" = some (some (.builtin "object.__setattr__")))
    (mk_Gate : PySem.W.makesIn K C_Gate = true)
    (kc_Gate : PySem.W.keepIn K (.ref C_Gate) = true)
    (n_Gate_0 : PySem.W.findIn K (.ref C_Gate) "_own" = some none)
    (n_Gate_1 : PySem.W.findIn K (.ref C_Gate) "_common" = some none)
    (n_Gate_2 : PySem.W.findIn K (.ref C_Gate) "_meters" = some none)
    (n_Gate_3 : PySem.W.findIn K (.ref C_Gate) "_last" = some none)
    (a17 : PySem.W.findIn K (.ref C_Gate) "__init__" = some (some (.ref f17)))
    (l17 : K.lookup f17 = some ⟨oc17, od17, .func (PySem.W.fnOf "__init__" "Gate.__init__" (C8.fnArgs s_Gate_init) (C8.fnBody s_Gate_init) (C8.fnScope s_Gate_init) (.ref T17) kV17 dc17 pm17 an17 cd17 ct17), sl17⟩)
    (lT17 : K.lookup T17 = some ⟨ocT17, odT17, .seq #[.none] mT17, slT17⟩)
    (c17 : PySem.W.codeIn K cd17 "Gate.__init__" = true)
    (k17 : PySem.W.keepIn K (.ref f17) = true)
    (i17 : PySem.W.isFn K (.ref f17) = true)
    (a18 : PySem.W.findIn K (.ref C_Gate) "ask" = some (some (.ref f18)))
    (l18 : K.lookup f18 = some ⟨oc18, od18, .func (PySem.W.fnOf "ask" "Gate.ask" (C8.fnArgs s_Gate_ask) (C8.fnBody s_Gate_ask) (C8.fnScope s_Gate_ask) .none kV18 dc18 pm18 an18 cd18 ct18), sl18⟩)
    (c18 : PySem.W.codeIn K cd18 "Gate.ask" = true)
    (k18 : PySem.W.keepIn K (.ref f18) = true)
    (i18 : PySem.W.isFn K (.ref f18) = true)
    (a19 : PySem.W.findIn K (.ref C_Gate) "visit" = some (some (.ref f19)))
    (l19 : K.lookup f19 = some ⟨oc19, od19, .func (PySem.W.fnOf "visit" "Gate.visit" (C8.fnArgs s_Gate_visit) (C8.fnBody s_Gate_visit) (C8.fnScope s_Gate_visit) .none kV19 dc19 pm19 an19 cd19 ct19), sl19⟩)
    (c19 : PySem.W.codeIn K cd19 "Gate.visit" = true)
    (k19 : PySem.W.keepIn K (.ref f19) = true)
    (i19 : PySem.W.isFn K (.ref f19) = true)
    (a20 : PySem.W.findIn K (.ref C_Gate) "names" = some (some (.ref f20)))
    (l20 : K.lookup f20 = some ⟨oc20, od20, .func (PySem.W.fnOf "names" "Gate.names" (C8.fnArgs s_Gate_names) (C8.fnBody s_Gate_names) (C8.fnScope s_Gate_names) .none kV20 dc20 pm20 an20 cd20 ct20), sl20⟩)
    (c20 : PySem.W.codeIn K cd20 "Gate.names" = true)
    (k20 : PySem.W.keepIn K (.ref f20) = true)
    (i20 : PySem.W.isFn K (.ref f20) = true)
    (a21 : PySem.W.findIn K (.ref C_Gate) "kept" = some (some (.ref f21)))
    (l21 : K.lookup f21 = some ⟨oc21, od21, .func (PySem.W.fnOf "kept" "Gate.kept" (C8.fnArgs s_Gate_kept) (C8.fnBody s_Gate_kept) (C8.fnScope s_Gate_kept) .none kV21 dc21 pm21 an21 cd21 ct21), sl21⟩)
    (c21 : PySem.W.codeIn K cd21 "Gate.kept" = true)
    (k21 : PySem.W.keepIn K (.ref f21) = true)
    (i21 : PySem.W.isFn K (.ref f21) = true)
    (a22 : PySem.W.findIn K (.ref C_Gate) "_check" = some (some (.ref f22)))
    (l22 : K.lookup f22 = some ⟨oc22, od22, .func (PySem.W.fnOf "_check" "Gate._check" (C8.fnArgs s_Gate__check) (C8.fnBody s_Gate__check) (C8.fnScope s_Gate__check) .none kV22 dc22 pm22 an22 cd22 ct22), sl22⟩)
    (c22 : PySem.W.codeIn K cd22 "Gate._check" = true)
    (k22 : PySem.W.keepIn K (.ref f22) = true)
    (i22 : PySem.W.isFn K (.ref f22) = true)
    (a23 : PySem.W.findIn K (.ref C_Gate) "_meters_of" = some (some (.ref f23)))
    (l23 : K.lookup f23 = some ⟨oc23, od23, .func (PySem.W.fnOf "_meters_of" "Gate._meters_of" (C8.fnArgs s_Gate__meters_of) (C8.fnBody s_Gate__meters_of) (C8.fnScope s_Gate__meters_of) .none kV23 dc23 pm23 an23 cd23 ct23), sl23⟩)
    (c23 : PySem.W.codeIn K cd23 "Gate._meters_of" = true)
    (k23 : PySem.W.keepIn K (.ref f23) = true)
    (i23 : PySem.W.isFn K (.ref f23) = true)
    (a24 : PySem.W.findIn K (.ref C_Gate) "_answer" = some (some (.ref f24)))
    (l24 : K.lookup f24 = some ⟨oc24, od24, .func (PySem.W.fnOf "_answer" "Gate._answer" (C8.fnArgs s_Gate__answer) (C8.fnBody s_Gate__answer) (C8.fnScope s_Gate__answer) .none kV24 dc24 pm24 an24 cd24 ct24), sl24⟩)
    (c24 : PySem.W.codeIn K cd24 "Gate._answer" = true)
    (k24 : PySem.W.keepIn K (.ref f24) = true)
    (i24 : PySem.W.isFn K (.ref f24) = true)
    (aC_Player : PySem.W.nsIn K mainGlobals "Player" = some (some (.ref C_Player)))
    (pg_Player : PySem.W.plainGet K C_Player Str.empty = true)
    (hd_Player : PySem.W.hasDictIn K C_Player = true)
    (po_Player : PySem.W.plainOver K C_Player = true)
    (sa_Player : PySem.W.findIn K (.ref C_Player) "__setattr__" = some (some (.builtin "object.__setattr__")))
    (mk_Player : PySem.W.makesIn K C_Player = true)
    (kc_Player : PySem.W.keepIn K (.ref C_Player) = true)
    (n_Player_0 : PySem.W.findIn K (.ref C_Player) "_bounds" = some none)
    (n_Player_1 : PySem.W.findIn K (.ref C_Player) "_gate" = some none)
    (a25 : PySem.W.findIn K (.ref C_Player) "__init__" = some (some (.ref f25)))
    (l25 : K.lookup f25 = some ⟨oc25, od25, .func (PySem.W.fnOf "__init__" "Player.__init__" (C8.fnArgs s_Player_init) (C8.fnBody s_Player_init) (C8.fnScope s_Player_init) .none kV25 dc25 pm25 an25 cd25 ct25), sl25⟩)
    (c25 : PySem.W.codeIn K cd25 "Player.__init__" = true)
    (k25 : PySem.W.keepIn K (.ref f25) = true)
    (i25 : PySem.W.isFn K (.ref f25) = true)
    (a26 : PySem.W.findIn K (.ref C_Player) "answer" = some (some (.ref f26)))
    (l26 : K.lookup f26 = some ⟨oc26, od26, .func (PySem.W.fnOf "answer" "Player.answer" (C8.fnArgs s_Player_answer) (C8.fnBody s_Player_answer) (C8.fnScope s_Player_answer) .none kV26 dc26 pm26 an26 cd26 ct26), sl26⟩)
    (c26 : PySem.W.codeIn K cd26 "Player.answer" = true)
    (k26 : PySem.W.keepIn K (.ref f26) = true)
    (i26 : PySem.W.isFn K (.ref f26) = true)
    (a27 : PySem.W.findIn K (.ref C_Player) "_add_bound" = some (some (.ref f27)))
    (l27 : K.lookup f27 = some ⟨oc27, od27, .func (PySem.W.fnOf "_add_bound" "Player._add_bound" (C8.fnArgs s_Player__add_bound) (C8.fnBody s_Player__add_bound) (C8.fnScope s_Player__add_bound) .none kV27 dc27 pm27 an27 cd27 ct27), sl27⟩)
    (c27 : PySem.W.codeIn K cd27 "Player._add_bound" = true)
    (k27 : PySem.W.keepIn K (.ref f27) = true)
    (i27 : PySem.W.isFn K (.ref f27) = true)
    (a28 : PySem.W.findIn K (.ref C_Player) "_ask_or_visit" = some (some (.ref f28)))
    (l28 : K.lookup f28 = some ⟨oc28, od28, .func (PySem.W.fnOf "_ask_or_visit" "Player._ask_or_visit" (C8.fnArgs s_Player__ask_or_visit) (C8.fnBody s_Player__ask_or_visit) (C8.fnScope s_Player__ask_or_visit) .none kV28 dc28 pm28 an28 cd28 ct28), sl28⟩)
    (c28 : PySem.W.codeIn K cd28 "Player._ask_or_visit" = true)
    (k28 : PySem.W.keepIn K (.ref f28) = true)
    (i28 : PySem.W.isFn K (.ref f28) = true)
    (a29 : PySem.W.findIn K (.ref C_Player) "_tell" = some (some (.ref f29)))
    (l29 : K.lookup f29 = some ⟨oc29, od29, .func (PySem.W.fnOf "_tell" "Player._tell" (C8.fnArgs s_Player__tell) (C8.fnBody s_Player__tell) (C8.fnScope s_Player__tell) .none kV29 dc29 pm29 an29 cd29 ct29), sl29⟩)
    (c29 : PySem.W.codeIn K cd29 "Player._tell" = true)
    (k29 : PySem.W.keepIn K (.ref f29) = true)
    (i29 : PySem.W.isFn K (.ref f29) = true)
    (a30 : PySem.W.findIn K (.ref C_Player) "_made_gate" = some (some (.ref f30)))
    (l30 : K.lookup f30 = some ⟨oc30, od30, .func (PySem.W.fnOf "_made_gate" "Player._made_gate" (C8.fnArgs s_Player__made_gate) (C8.fnBody s_Player__made_gate) (C8.fnScope s_Player__made_gate) .none kV30 dc30 pm30 an30 cd30 ct30), sl30⟩)
    (c30 : PySem.W.codeIn K cd30 "Player._made_gate" = true)
    (k30 : PySem.W.keepIn K (.ref f30) = true)
    (i30 : PySem.W.isFn K (.ref f30) = true)
    (aG : PySem.W.nsIn K mainGlobals "GateError" = some (some (.ref cG)))
    (dG : PySem.W.hasDictIn K cG = true)
    (tG : PySem.W.typeIn K (.ref cG) = some (.type "type"))
    (sGB : PySem.W.subIn K (.ref cG) (.type "BaseException") = some true)
    (hn : PySem.W.specialIn K (.builtin "object.__class__") "__get__" = some (some (.builtin "getset_descriptor.__get__")))
    (ht : PySem.W.takesIn K (.builtin "object.__class__") = some true)
    (a_0 : PySem.W.nsIn K mainGlobals "NoBound" = some (some (.ref Cx0)))
    (kp_0 : PySem.W.keepIn K (.ref Cx0) = true)
    (hg_0 : PySem.W.findIn K (.ref Cx0) "__getattribute__" = some (some (.builtin "BaseException.__getattribute__")))
    (hk_0 : PySem.W.findIn K (.ref Cx0) "__getattr__" = some none)
    (hs_0 : PySem.W.subIn K (.ref Cx0) (.type "BaseException") = some true)
    (hd_0 : PySem.W.hasDictIn K Cx0 = true)
    (ha_0 : PySem.W.findIn K (.ref Cx0) "__class__" = some (some (.builtin "object.__class__")))
    (hm_0 : PySem.W.mroIn K Cx0 (.type "object") = some true)
    (sg_0 : PySem.W.subIn K (.ref Cx0) (.ref cG) = some true)
    (sv_0 : PySem.W.subIn K (.ref Cx0) (.type "ValueError") = some true)
    (ty_0 : PySem.W.typeIn K (.ref Cx0) = some (.type "type"))
    (x_0 : PySem.W.excIn K Cx0 [.type "ValueError", .type "Exception", .type "BaseException", .type "object"] "ValueError.__new__" = true)
    (a_1 : PySem.W.nsIn K mainGlobals "NoName" = some (some (.ref Cx1)))
    (kp_1 : PySem.W.keepIn K (.ref Cx1) = true)
    (hg_1 : PySem.W.findIn K (.ref Cx1) "__getattribute__" = some (some (.builtin "BaseException.__getattribute__")))
    (hk_1 : PySem.W.findIn K (.ref Cx1) "__getattr__" = some none)
    (hs_1 : PySem.W.subIn K (.ref Cx1) (.type "BaseException") = some true)
    (hd_1 : PySem.W.hasDictIn K Cx1 = true)
    (ha_1 : PySem.W.findIn K (.ref Cx1) "__class__" = some (some (.builtin "object.__class__")))
    (hm_1 : PySem.W.mroIn K Cx1 (.type "object") = some true)
    (sg_1 : PySem.W.subIn K (.ref Cx1) (.ref cG) = some true)
    (sv_1 : PySem.W.subIn K (.ref Cx1) (.type "ValueError") = some true)
    (ty_1 : PySem.W.typeIn K (.ref Cx1) = some (.type "type"))
    (x_1 : PySem.W.excIn K Cx1 [.type "ValueError", .type "Exception", .type "BaseException", .type "object"] "ValueError.__new__" = true)
    (a_2 : PySem.W.nsIn K mainGlobals "NoMoment" = some (some (.ref Cx2)))
    (kp_2 : PySem.W.keepIn K (.ref Cx2) = true)
    (hg_2 : PySem.W.findIn K (.ref Cx2) "__getattribute__" = some (some (.builtin "BaseException.__getattribute__")))
    (hk_2 : PySem.W.findIn K (.ref Cx2) "__getattr__" = some none)
    (hs_2 : PySem.W.subIn K (.ref Cx2) (.type "BaseException") = some true)
    (hd_2 : PySem.W.hasDictIn K Cx2 = true)
    (ha_2 : PySem.W.findIn K (.ref Cx2) "__class__" = some (some (.builtin "object.__class__")))
    (hm_2 : PySem.W.mroIn K Cx2 (.type "object") = some true)
    (sg_2 : PySem.W.subIn K (.ref Cx2) (.ref cG) = some true)
    (sv_2 : PySem.W.subIn K (.ref Cx2) (.type "ValueError") = some true)
    (ty_2 : PySem.W.typeIn K (.ref Cx2) = some (.type "type"))
    (x_2 : PySem.W.excIn K Cx2 [.type "ValueError", .type "Exception", .type "BaseException", .type "object"] "ValueError.__new__" = true)
    (a_3 : PySem.W.nsIn K mainGlobals "Late" = some (some (.ref Cx3)))
    (kp_3 : PySem.W.keepIn K (.ref Cx3) = true)
    (hg_3 : PySem.W.findIn K (.ref Cx3) "__getattribute__" = some (some (.builtin "BaseException.__getattribute__")))
    (hk_3 : PySem.W.findIn K (.ref Cx3) "__getattr__" = some none)
    (hs_3 : PySem.W.subIn K (.ref Cx3) (.type "BaseException") = some true)
    (hd_3 : PySem.W.hasDictIn K Cx3 = true)
    (ha_3 : PySem.W.findIn K (.ref Cx3) "__class__" = some (some (.builtin "object.__class__")))
    (hm_3 : PySem.W.mroIn K Cx3 (.type "object") = some true)
    (sg_3 : PySem.W.subIn K (.ref Cx3) (.ref cG) = some true)
    (sv_3 : PySem.W.subIn K (.ref Cx3) (.type "ValueError") = some true)
    (ty_3 : PySem.W.typeIn K (.ref Cx3) = some (.type "type"))
    (x_3 : PySem.W.excIn K Cx3 [.type "ValueError", .type "Exception", .type "BaseException", .type "object"] "ValueError.__new__" = true)
    (a_4 : PySem.W.nsIn K mainGlobals "NoCost" = some (some (.ref Cx4)))
    (kp_4 : PySem.W.keepIn K (.ref Cx4) = true)
    (hg_4 : PySem.W.findIn K (.ref Cx4) "__getattribute__" = some (some (.builtin "BaseException.__getattribute__")))
    (hk_4 : PySem.W.findIn K (.ref Cx4) "__getattr__" = some none)
    (hs_4 : PySem.W.subIn K (.ref Cx4) (.type "BaseException") = some true)
    (hd_4 : PySem.W.hasDictIn K Cx4 = true)
    (ha_4 : PySem.W.findIn K (.ref Cx4) "__class__" = some (some (.builtin "object.__class__")))
    (hm_4 : PySem.W.mroIn K Cx4 (.type "object") = some true)
    (sg_4 : PySem.W.subIn K (.ref Cx4) (.ref cG) = some true)
    (sv_4 : PySem.W.subIn K (.ref Cx4) (.type "ValueError") = some true)
    (ty_4 : PySem.W.typeIn K (.ref Cx4) = some (.type "type"))
    (x_4 : PySem.W.excIn K Cx4 [.type "ValueError", .type "Exception", .type "BaseException", .type "object"] "ValueError.__new__" = true)
    (a_5 : PySem.W.nsIn K mainGlobals "BadRow" = some (some (.ref Cx5)))
    (kp_5 : PySem.W.keepIn K (.ref Cx5) = true)
    (hg_5 : PySem.W.findIn K (.ref Cx5) "__getattribute__" = some (some (.builtin "BaseException.__getattribute__")))
    (hk_5 : PySem.W.findIn K (.ref Cx5) "__getattr__" = some none)
    (hs_5 : PySem.W.subIn K (.ref Cx5) (.type "BaseException") = some true)
    (hd_5 : PySem.W.hasDictIn K Cx5 = true)
    (ha_5 : PySem.W.findIn K (.ref Cx5) "__class__" = some (some (.builtin "object.__class__")))
    (hm_5 : PySem.W.mroIn K Cx5 (.type "object") = some true)
    (sg_5 : PySem.W.subIn K (.ref Cx5) (.ref cG) = some true)
    (sv_5 : PySem.W.subIn K (.ref Cx5) (.type "ValueError") = some true)
    (ty_5 : PySem.W.typeIn K (.ref Cx5) = some (.type "type"))
    (x_5 : PySem.W.excIn K Cx5 [.type "ValueError", .type "Exception", .type "BaseException", .type "object"] "ValueError.__new__" = true)
    (s_0_0 : PySem.W.subIn K (.ref Cx0) (.ref Cx0) = some true)
    (s_0_1 : PySem.W.subIn K (.ref Cx0) (.ref Cx1) = some false)
    (s_0_2 : PySem.W.subIn K (.ref Cx0) (.ref Cx2) = some false)
    (s_0_3 : PySem.W.subIn K (.ref Cx0) (.ref Cx3) = some false)
    (s_0_4 : PySem.W.subIn K (.ref Cx0) (.ref Cx4) = some false)
    (s_0_5 : PySem.W.subIn K (.ref Cx0) (.ref Cx5) = some false)
    (s_1_0 : PySem.W.subIn K (.ref Cx1) (.ref Cx0) = some false)
    (s_1_1 : PySem.W.subIn K (.ref Cx1) (.ref Cx1) = some true)
    (s_1_2 : PySem.W.subIn K (.ref Cx1) (.ref Cx2) = some false)
    (s_1_3 : PySem.W.subIn K (.ref Cx1) (.ref Cx3) = some false)
    (s_1_4 : PySem.W.subIn K (.ref Cx1) (.ref Cx4) = some false)
    (s_1_5 : PySem.W.subIn K (.ref Cx1) (.ref Cx5) = some false)
    (s_2_0 : PySem.W.subIn K (.ref Cx2) (.ref Cx0) = some false)
    (s_2_1 : PySem.W.subIn K (.ref Cx2) (.ref Cx1) = some false)
    (s_2_2 : PySem.W.subIn K (.ref Cx2) (.ref Cx2) = some true)
    (s_2_3 : PySem.W.subIn K (.ref Cx2) (.ref Cx3) = some false)
    (s_2_4 : PySem.W.subIn K (.ref Cx2) (.ref Cx4) = some false)
    (s_2_5 : PySem.W.subIn K (.ref Cx2) (.ref Cx5) = some false)
    (s_3_0 : PySem.W.subIn K (.ref Cx3) (.ref Cx0) = some false)
    (s_3_1 : PySem.W.subIn K (.ref Cx3) (.ref Cx1) = some false)
    (s_3_2 : PySem.W.subIn K (.ref Cx3) (.ref Cx2) = some false)
    (s_3_3 : PySem.W.subIn K (.ref Cx3) (.ref Cx3) = some true)
    (s_3_4 : PySem.W.subIn K (.ref Cx3) (.ref Cx4) = some false)
    (s_3_5 : PySem.W.subIn K (.ref Cx3) (.ref Cx5) = some false)
    (s_4_0 : PySem.W.subIn K (.ref Cx4) (.ref Cx0) = some false)
    (s_4_1 : PySem.W.subIn K (.ref Cx4) (.ref Cx1) = some false)
    (s_4_2 : PySem.W.subIn K (.ref Cx4) (.ref Cx2) = some false)
    (s_4_3 : PySem.W.subIn K (.ref Cx4) (.ref Cx3) = some false)
    (s_4_4 : PySem.W.subIn K (.ref Cx4) (.ref Cx4) = some true)
    (s_4_5 : PySem.W.subIn K (.ref Cx4) (.ref Cx5) = some false)
    (s_5_0 : PySem.W.subIn K (.ref Cx5) (.ref Cx0) = some false)
    (s_5_1 : PySem.W.subIn K (.ref Cx5) (.ref Cx1) = some false)
    (s_5_2 : PySem.W.subIn K (.ref Cx5) (.ref Cx2) = some false)
    (s_5_3 : PySem.W.subIn K (.ref Cx5) (.ref Cx3) = some false)
    (s_5_4 : PySem.W.subIn K (.ref Cx5) (.ref Cx4) = some false)
    (s_5_5 : PySem.W.subIn K (.ref Cx5) (.ref Cx5) = some true)
    (haJ : PySem.W.findIn K (.ref C_Jar) "__class__" = some (some (.builtin "object.__class__")))
    (hmJ : PySem.W.mroIn K C_Jar (.type "object") = some true)
    (haW : PySem.W.findIn K (.ref C_Window) "__class__" = some (some (.builtin "object.__class__")))
    (hmW : PySem.W.mroIn K C_Window (.type "object") = some true)
    (tJ : PySem.W.typeIn K (.ref C_Jar) = some (.type "type"))
    (tW : PySem.W.typeIn K (.ref C_Window) = some (.type "type"))
    (wjs : PySem.W.subIn K (.ref C_Window) (.ref C_Jar) = some false)
    (wws : PySem.W.subIn K (.ref C_Window) (.ref C_Window) = some true)
    (a31 : PySem.W.nsIn K mainGlobals "is_within" = some (some (.ref f31)))
    (l31 : K.lookup f31 = some ⟨oc31, od31, .func (PySem.W.fnOf "is_within" "is_within" (C8.fnArgs s_is_within) (C8.fnBody s_is_within) (C8.fnScope s_is_within) .none kV31 dc31 pm31 an31 cd31 ct31), sl31⟩)
    (c31 : PySem.W.codeIn K cd31 "is_within" = true)
    (k31 : PySem.W.keepIn K (.ref f31) = true)
    (a32 : PySem.W.nsIn K mainGlobals "_place_reaching" = some (some (.ref f32)))
    (l32 : K.lookup f32 = some ⟨oc32, od32, .func (PySem.W.fnOf "_place_reaching" "_place_reaching" (C8.fnArgs s_place_reaching) (C8.fnBody s_place_reaching) (C8.fnScope s_place_reaching) .none kV32 dc32 pm32 an32 cd32 ct32), sl32⟩)
    (c32 : PySem.W.codeIn K cd32 "_place_reaching" = true)
    (k32 : PySem.W.keepIn K (.ref f32) = true)
    (a33 : PySem.W.nsIn K mainGlobals "new_meters" = some (some (.ref f33)))
    (l33 : K.lookup f33 = some ⟨oc33, od33, .func (PySem.W.fnOf "new_meters" "new_meters" (C8.fnArgs s_new_meters) (C8.fnBody s_new_meters) (C8.fnScope s_new_meters) .none kV33 dc33 pm33 an33 cd33 ct33), sl33⟩)
    (c33 : PySem.W.codeIn K cd33 "new_meters" = true)
    (k33 : PySem.W.keepIn K (.ref f33) = true)
    (a34 : PySem.W.nsIn K mainGlobals "wait_for_all" = some (some (.ref f34)))
    (l34 : K.lookup f34 = some ⟨oc34, od34, .func (PySem.W.fnOf "wait_for_all" "wait_for_all" (C8.fnArgs s_wait_for_all) (C8.fnBody s_wait_for_all) (C8.fnScope s_wait_for_all) .none kV34 dc34 pm34 an34 cd34 ct34), sl34⟩)
    (c34 : PySem.W.codeIn K cd34 "wait_for_all" = true)
    (k34 : PySem.W.keepIn K (.ref f34) = true)
    (a35 : PySem.W.nsIn K mainGlobals "take_by_all" = some (some (.ref f35)))
    (l35 : K.lookup f35 = some ⟨oc35, od35, .func (PySem.W.fnOf "take_by_all" "take_by_all" (C8.fnArgs s_take_by_all) (C8.fnBody s_take_by_all) (C8.fnScope s_take_by_all) .none kV35 dc35 pm35 an35 cd35 ct35), sl35⟩)
    (c35 : PySem.W.codeIn K cd35 "take_by_all" = true)
    (k35 : PySem.W.keepIn K (.ref f35) = true)
    (a36 : PySem.W.nsIn K mainGlobals "check_bound" = some (some (.ref f36)))
    (l36 : K.lookup f36 = some ⟨oc36, od36, .func (PySem.W.fnOf "check_bound" "check_bound" (C8.fnArgs s_check_bound) (C8.fnBody s_check_bound) (C8.fnScope s_check_bound) .none kV36 dc36 pm36 an36 cd36 ct36), sl36⟩)
    (c36 : PySem.W.codeIn K cd36 "check_bound" = true)
    (k36 : PySem.W.keepIn K (.ref f36) = true)
    (a37 : PySem.W.nsIn K mainGlobals "copied_bounds" = some (some (.ref f37)))
    (l37 : K.lookup f37 = some ⟨oc37, od37, .func (PySem.W.fnOf "copied_bounds" "copied_bounds" (C8.fnArgs s_copied_bounds) (C8.fnBody s_copied_bounds) (C8.fnScope s_copied_bounds) .none kV37 dc37 pm37 an37 cd37 ct37), sl37⟩)
    (c37 : PySem.W.codeIn K cd37 "copied_bounds" = true)
    (k37 : PySem.W.keepIn K (.ref f37) = true)
    (a38 : PySem.W.nsIn K mainGlobals "check_moment" = some (some (.ref f38)))
    (l38 : K.lookup f38 = some ⟨oc38, od38, .func (PySem.W.fnOf "check_moment" "check_moment" (C8.fnArgs s_check_moment) (C8.fnBody s_check_moment) (C8.fnScope s_check_moment) .none kV38 dc38 pm38 an38 cd38 ct38), sl38⟩)
    (c38 : PySem.W.codeIn K cd38 "check_moment" = true)
    (k38 : PySem.W.keepIn K (.ref f38) = true)
    (a39 : PySem.W.nsIn K mainGlobals "check_cost" = some (some (.ref f39)))
    (l39 : K.lookup f39 = some ⟨oc39, od39, .func (PySem.W.fnOf "check_cost" "check_cost" (C8.fnArgs s_check_cost) (C8.fnBody s_check_cost) (C8.fnScope s_check_cost) .none kV39 dc39 pm39 an39 cd39 ct39), sl39⟩)
    (c39 : PySem.W.codeIn K cd39 "check_cost" = true)
    (k39 : PySem.W.keepIn K (.ref f39) = true)
    (a40 : PySem.W.nsIn K mainGlobals "_is_name" = some (some (.ref f40)))
    (l40 : K.lookup f40 = some ⟨oc40, od40, .func (PySem.W.fnOf "_is_name" "_is_name" (C8.fnArgs s_is_name) (C8.fnBody s_is_name) (C8.fnScope s_is_name) .none kV40 dc40 pm40 an40 cd40 ct40), sl40⟩)
    (c40 : PySem.W.codeIn K cd40 "_is_name" = true)
    (k40 : PySem.W.keepIn K (.ref f40) = true)
    (a41 : PySem.W.nsIn K mainGlobals "play" = some (some (.ref f41)))
    (l41 : K.lookup f41 = some ⟨oc41, od41, .func (PySem.W.fnOf "play" "play" (C8.fnArgs s_play) (C8.fnBody s_play) (C8.fnScope s_play) .none kV41 dc41 pm41 an41 cd41 ct41), sl41⟩)
    (c41 : PySem.W.codeIn K cd41 "play" = true)
    (k41 : PySem.W.keepIn K (.ref f41) = true)
    (a42 : PySem.W.nsIn K mainGlobals "_answer_or_refusal" = some (some (.ref f42)))
    (l42 : K.lookup f42 = some ⟨oc42, od42, .func (PySem.W.fnOf "_answer_or_refusal" "_answer_or_refusal" (C8.fnArgs s_answer_or_refusal) (C8.fnBody s_answer_or_refusal) (C8.fnScope s_answer_or_refusal) .none kV42 dc42 pm42 an42 cd42 ct42), sl42⟩)
    (c42 : PySem.W.codeIn K cd42 "_answer_or_refusal" = true)
    (k42 : PySem.W.keepIn K (.ref f42) = true)
    (a43 : PySem.W.nsIn K mainGlobals "_check_length" = some (some (.ref f43)))
    (l43 : K.lookup f43 = some ⟨oc43, od43, .func (PySem.W.fnOf "_check_length" "_check_length" (C8.fnArgs s_check_length) (C8.fnBody s_check_length) (C8.fnScope s_check_length) .none kV43 dc43 pm43 an43 cd43 ct43), sl43⟩)
    (c43 : PySem.W.codeIn K cd43 "_check_length" = true)
    (k43 : PySem.W.keepIn K (.ref f43) = true)
    (a44 : PySem.W.nsIn K mainGlobals "_number" = some (some (.ref f44)))
    (l44 : K.lookup f44 = some ⟨oc44, od44, .func (PySem.W.fnOf "_number" "_number" (C8.fnArgs s_number) (C8.fnBody s_number) (C8.fnScope s_number) .none kV44 dc44 pm44 an44 cd44 ct44), sl44⟩)
    (c44 : PySem.W.codeIn K cd44 "_number" = true)
    (k44 : PySem.W.keepIn K (.ref f44) = true)
    (a45 : PySem.W.nsIn K mainGlobals "_shown" = some (some (.ref f45)))
    (l45 : K.lookup f45 = some ⟨oc45, od45, .func (PySem.W.fnOf "_shown" "_shown" (C8.fnArgs s_shown) (C8.fnBody s_shown) (C8.fnScope s_shown) .none kV45 dc45 pm45 an45 cd45 ct45), sl45⟩)
    (c45 : PySem.W.codeIn K cd45 "_shown" = true)
    (k45 : PySem.W.keepIn K (.ref f45) = true)
    (a46 : PySem.W.nsIn K mainGlobals "_law_cell" = some (some (.ref f46)))
    (l46 : K.lookup f46 = some ⟨oc46, od46, .func (PySem.W.fnOf "_law_cell" "_law_cell" (C8.fnArgs s_Lcell) (C8.fnBody s_Lcell) (C8.fnScope s_Lcell) .none kV46 dc46 pm46 an46 cd46 ct46), sl46⟩)
    (c46 : PySem.W.codeIn K cd46 "_law_cell" = true)
    (k46 : PySem.W.keepIn K (.ref f46) = true)
    (a47 : PySem.W.nsIn K mainGlobals "_law_bound" = some (some (.ref f47)))
    (l47 : K.lookup f47 = some ⟨oc47, od47, .func (PySem.W.fnOf "_law_bound" "_law_bound" (C8.fnArgs s_Lbound) (C8.fnBody s_Lbound) (C8.fnScope s_Lbound) .none kV47 dc47 pm47 an47 cd47 ct47), sl47⟩)
    (c47 : PySem.W.codeIn K cd47 "_law_bound" = true)
    (k47 : PySem.W.keepIn K (.ref f47) = true)
    (a48 : PySem.W.nsIn K mainGlobals "_law_made" = some (some (.ref f48)))
    (l48 : K.lookup f48 = some ⟨oc48, od48, .func (PySem.W.fnOf "_law_made" "_law_made" (C8.fnArgs s_Lmade) (C8.fnBody s_Lmade) (C8.fnScope s_Lmade) .none kV48 dc48 pm48 an48 cd48 ct48), sl48⟩)
    (c48 : PySem.W.codeIn K cd48 "_law_made" = true)
    (k48 : PySem.W.keepIn K (.ref f48) = true)
    (a49 : PySem.W.nsIn K mainGlobals "_law_gap" = some (some (.ref f49)))
    (l49 : K.lookup f49 = some ⟨oc49, od49, .func (PySem.W.fnOf "_law_gap" "_law_gap" (C8.fnArgs s_Lgap) (C8.fnBody s_Lgap) (C8.fnScope s_Lgap) .none kV49 dc49 pm49 an49 cd49 ct49), sl49⟩)
    (c49 : PySem.W.codeIn K cd49 "_law_gap" = true)
    (k49 : PySem.W.keepIn K (.ref f49) = true)
    (a50 : PySem.W.nsIn K mainGlobals "_law_cost" = some (some (.ref f50)))
    (l50 : K.lookup f50 = some ⟨oc50, od50, .func (PySem.W.fnOf "_law_cost" "_law_cost" (C8.fnArgs s_Lcost) (C8.fnBody s_Lcost) (C8.fnScope s_Lcost) .none kV50 dc50 pm50 an50 cd50 ct50), sl50⟩)
    (c50 : PySem.W.codeIn K cd50 "_law_cost" = true)
    (k50 : PySem.W.keepIn K (.ref f50) = true)
    (a51 : PySem.W.nsIn K mainGlobals "_law_scale" = some (some (.ref f51)))
    (l51 : K.lookup f51 = some ⟨oc51, od51, .func (PySem.W.fnOf "_law_scale" "_law_scale" (C8.fnArgs s_Lscale) (C8.fnBody s_Lscale) (C8.fnScope s_Lscale) .none kV51 dc51 pm51 an51 cd51 ct51), sl51⟩)
    (c51 : PySem.W.codeIn K cd51 "_law_scale" = true)
    (k51 : PySem.W.keepIn K (.ref f51) = true)
    (a52 : PySem.W.nsIn K mainGlobals "_law_kind" = some (some (.ref f52)))
    (l52 : K.lookup f52 = some ⟨oc52, od52, .func (PySem.W.fnOf "_law_kind" "_law_kind" (C8.fnArgs s_Lkind) (C8.fnBody s_Lkind) (C8.fnScope s_Lkind) .none kV52 dc52 pm52 an52 cd52 ct52), sl52⟩)
    (c52 : PySem.W.codeIn K cd52 "_law_kind" = true)
    (k52 : PySem.W.keepIn K (.ref f52) = true)
    (a53 : PySem.W.nsIn K mainGlobals "_law_text" = some (some (.ref f53)))
    (l53 : K.lookup f53 = some ⟨oc53, od53, .func (PySem.W.fnOf "_law_text" "_law_text" (C8.fnArgs s_Ltext) (C8.fnBody s_Ltext) (C8.fnScope s_Ltext) .none kV53 dc53 pm53 an53 cd53 ct53), sl53⟩)
    (c53 : PySem.W.codeIn K cd53 "_law_text" = true)
    (k53 : PySem.W.keepIn K (.ref f53) = true)
    (a54 : PySem.W.nsIn K mainGlobals "_law_answer" = some (some (.ref f54)))
    (l54 : K.lookup f54 = some ⟨oc54, od54, .func (PySem.W.fnOf "_law_answer" "_law_answer" (C8.fnArgs s_Lanswer) (C8.fnBody s_Lanswer) (C8.fnScope s_Lanswer) .none kV54 dc54 pm54 an54 cd54 ct54), sl54⟩)
    (c54 : PySem.W.codeIn K cd54 "_law_answer" = true)
    (k54 : PySem.W.keepIn K (.ref f54) = true)
    (a55 : PySem.W.nsIn K mainGlobals "_law_spread" = some (some (.ref f55)))
    (l55 : K.lookup f55 = some ⟨oc55, od55, .func (PySem.W.fnOf "_law_spread" "_law_spread" (C8.fnArgs s_Lspread) (C8.fnBody s_Lspread) (C8.fnScope s_Lspread) .none kV55 dc55 pm55 an55 cd55 ct55), sl55⟩)
    (c55 : PySem.W.codeIn K cd55 "_law_spread" = true)
    (k55 : PySem.W.keepIn K (.ref f55) = true)
    (a56 : PySem.W.nsIn K mainGlobals "_law_row" = some (some (.ref f56)))
    (l56 : K.lookup f56 = some ⟨oc56, od56, .func (PySem.W.fnOf "_law_row" "_law_row" (C8.fnArgs s_Lrow) (C8.fnBody s_Lrow) (C8.fnScope s_Lrow) .none kV56 dc56 pm56 an56 cd56 ct56), sl56⟩)
    (c56 : PySem.W.codeIn K cd56 "_law_row" = true)
    (k56 : PySem.W.keepIn K (.ref f56) = true)
    (a57 : PySem.W.nsIn K mainGlobals "law" = some (some (.ref f57)))
    (l57 : K.lookup f57 = some ⟨oc57, od57, .func (PySem.W.fnOf "law" "law" (C8.fnArgs s_law) (C8.fnBody s_law) (C8.fnScope s_law) .none kV57 dc57 pm57 an57 cd57 ct57), sl57⟩)
    (c57 : PySem.W.codeIn K cd57 "law" = true)
    (k57 : PySem.W.keepIn K (.ref f57) = true) :
    ∃ fd : FuncData, (∀ (s : Shared) (v : Value), BindsTo s fd ⟨[v], []⟩ [("_law_script", v)]) ∧ ∀ base : Heap, K.In base → base.Ns mainGlobals mg → FnOk l.prog w K mg base CX0 12 fa fd ["_law_script"] (spLaw K) := by
  have e : f57 = fa := by
    have e := (PySem.W.mg_of X G a57).symm.trans hfa
    injection e with e
    injection e
  subst e
  have T : Blt mg := ⟨PySem.W.mg_none_of X G z_len, PySem.W.mg_none_of X G z_range, PySem.W.mg_none_of X G z_max, PySem.W.mg_none_of X G z_min, PySem.W.mg_none_of X G z_int, PySem.W.mg_none_of X G z_tuple, PySem.W.mg_none_of X G z_list, PySem.W.mg_none_of X G z_isinstance, PySem.W.mg_none_of X G z_enumerate, PySem.W.mg_none_of X G z_ValueError, PySem.W.mg_none_of X G z_super, PySem.W.mg_none_of X G z_all, PySem.W.mg_none_of X G z_sorted, PySem.W.mg_none_of X G z_sum, PySem.W.mg_none_of X G z_str, PySem.W.mg_none_of X G z_bool⟩
  have Gc : Cst mg := ⟨⟨_, PySem.W.mg_of X G g_LARGEST_SIZE, ⟨_, rfl⟩⟩, ⟨_, PySem.W.mg_of X G g_LARGEST_FLOW, ⟨_, rfl⟩⟩, ⟨_, PySem.W.mg_of X G g_LARGEST_MOST, ⟨_, rfl⟩⟩, ⟨_, PySem.W.mg_of X G g_LARGEST_SPAN, ⟨_, rfl⟩⟩, ⟨_, PySem.W.mg_of X G g_MOST_BOUNDS, ⟨_, rfl⟩⟩, ⟨_, PySem.W.mg_of X G g_LARGEST_MOMENT, ⟨_, rfl⟩⟩, ⟨_, PySem.W.mg_of X G g_LARGEST_COST, ⟨_, rfl⟩⟩, ⟨_, PySem.W.mg_of X G g_LONGEST_NAME, ⟨_, rfl⟩⟩, ⟨_, PySem.W.mg_of X G g_MOST_FIGURES, ⟨_, rfl⟩⟩, ⟨_, PySem.W.mg_of X G g_FIGURES, ⟨_, rfl⟩⟩⟩
  have cl_JarMeter : Cls K C_JarMeter := ⟨pg_JarMeter, hd_JarMeter, po_JarMeter, sa_JarMeter⟩
  have kl_JarMeter : ClJM K C_JarMeter := ⟨cl_JarMeter, n_JarMeter_0, n_JarMeter_1, n_JarMeter_2, n_JarMeter_3⟩
  have F1 : C8.Fun K "__init__" "JarMeter.__init__" s_JarMeter_init f1 _ := ⟨⟨oc1, od1, .none, kV1, dc1, pm1, an1, cd1, ct1, sl1, rfl, l1, c1⟩⟩
  have b1 : Binds K _ ["self", "size", "flow"] [] := F1.binds rfl (ps := ["self", "size", "flow"]) fun _ _ _ _ _ _ us hl => match us, hl with | [_, _, _], _ => rfl
  have M_JarMeter : Mk K C_JarMeter f1 := ⟨mk_JarMeter, a1, i1, kc_JarMeter⟩
  have mg_JarMeter := PySem.W.mg_of X G aC_JarMeter
  have fn_JarMeter_init := F1
  have bi_JarMeter_init := b1
  have F2 : C8.Fun K "can" "JarMeter.can" s_JarMeter_can f2 _ := ⟨⟨oc2, od2, .none, kV2, dc2, pm2, an2, cd2, ct2, sl2, rfl, l2, c2⟩⟩
  have b2 : Binds K _ ["self", "moment", "cost"] [] := F2.binds rfl (ps := ["self", "moment", "cost"]) fun _ _ _ _ _ _ us hl => match us, hl with | [_, _, _], _ => rfl
  have me_JarMeter_can : Meth K C_JarMeter "can" f2 := ⟨a2, i2, k2⟩
  have fn_JarMeter_can := F2
  have bi_JarMeter_can := b2
  have F3 : C8.Fun K "wait" "JarMeter.wait" s_JarMeter_wait f3 _ := ⟨⟨oc3, od3, .none, kV3, dc3, pm3, an3, cd3, ct3, sl3, rfl, l3, c3⟩⟩
  have b3 : Binds K _ ["self", "moment", "cost"] [] := F3.binds rfl (ps := ["self", "moment", "cost"]) fun _ _ _ _ _ _ us hl => match us, hl with | [_, _, _], _ => rfl
  have me_JarMeter_wait : Meth K C_JarMeter "wait" f3 := ⟨a3, i3, k3⟩
  have fn_JarMeter_wait := F3
  have bi_JarMeter_wait := b3
  have F4 : C8.Fun K "take" "JarMeter.take" s_JarMeter_take f4 _ := ⟨⟨oc4, od4, .none, kV4, dc4, pm4, an4, cd4, ct4, sl4, rfl, l4, c4⟩⟩
  have b4 : Binds K _ ["self", "moment", "cost"] [] := F4.binds rfl (ps := ["self", "moment", "cost"]) fun _ _ _ _ _ _ us hl => match us, hl with | [_, _, _], _ => rfl
  have me_JarMeter_take : Meth K C_JarMeter "take" f4 := ⟨a4, i4, k4⟩
  have fn_JarMeter_take := F4
  have bi_JarMeter_take := b4
  have F5 : C8.Fun K "kept" "JarMeter.kept" s_JarMeter_kept f5 _ := ⟨⟨oc5, od5, .none, kV5, dc5, pm5, an5, cd5, ct5, sl5, rfl, l5, c5⟩⟩
  have b5 : Binds K _ ["self"] [] := F5.binds rfl (ps := ["self"]) fun _ _ _ _ _ _ us hl => match us, hl with | [_], _ => rfl
  have me_JarMeter_kept : Meth K C_JarMeter "kept" f5 := ⟨a5, i5, k5⟩
  have fn_JarMeter_kept := F5
  have bi_JarMeter_kept := b5
  have F6 : C8.Fun K "_level_at" "JarMeter._level_at" s_JarMeter__level_at f6 _ := ⟨⟨oc6, od6, .none, kV6, dc6, pm6, an6, cd6, ct6, sl6, rfl, l6, c6⟩⟩
  have b6 : Binds K _ ["self", "moment"] [] := F6.binds rfl (ps := ["self", "moment"]) fun _ _ _ _ _ _ us hl => match us, hl with | [_, _], _ => rfl
  have me_JarMeter__level_at : Meth K C_JarMeter "_level_at" f6 := ⟨a6, i6, k6⟩
  have fn_JarMeter__level_at := F6
  have bi_JarMeter__level_at := b6
  have cl_WindowMeter : Cls K C_WindowMeter := ⟨pg_WindowMeter, hd_WindowMeter, po_WindowMeter, sa_WindowMeter⟩
  have kl_WindowMeter : ClWM K C_WindowMeter := ⟨cl_WindowMeter, n_WindowMeter_0, n_WindowMeter_1, n_WindowMeter_2, n_WindowMeter_3, n_WindowMeter_4⟩
  have F7 : C8.Fun K "__init__" "WindowMeter.__init__" s_WindowMeter_init f7 _ := ⟨⟨oc7, od7, .none, kV7, dc7, pm7, an7, cd7, ct7, sl7, rfl, l7, c7⟩⟩
  have b7 : Binds K _ ["self", "most", "span"] [] := F7.binds rfl (ps := ["self", "most", "span"]) fun _ _ _ _ _ _ us hl => match us, hl with | [_, _, _], _ => rfl
  have M_WindowMeter : Mk K C_WindowMeter f7 := ⟨mk_WindowMeter, a7, i7, kc_WindowMeter⟩
  have mg_WindowMeter := PySem.W.mg_of X G aC_WindowMeter
  have fn_WindowMeter_init := F7
  have bi_WindowMeter_init := b7
  have F8 : C8.Fun K "can" "WindowMeter.can" s_WindowMeter_can f8 _ := ⟨⟨oc8, od8, .none, kV8, dc8, pm8, an8, cd8, ct8, sl8, rfl, l8, c8⟩⟩
  have b8 : Binds K _ ["self", "moment", "cost"] [] := F8.binds rfl (ps := ["self", "moment", "cost"]) fun _ _ _ _ _ _ us hl => match us, hl with | [_, _, _], _ => rfl
  have me_WindowMeter_can : Meth K C_WindowMeter "can" f8 := ⟨a8, i8, k8⟩
  have fn_WindowMeter_can := F8
  have bi_WindowMeter_can := b8
  have F9 : C8.Fun K "wait" "WindowMeter.wait" s_WindowMeter_wait f9 _ := ⟨⟨oc9, od9, .none, kV9, dc9, pm9, an9, cd9, ct9, sl9, rfl, l9, c9⟩⟩
  have b9 : Binds K _ ["self", "moment", "cost"] [] := F9.binds rfl (ps := ["self", "moment", "cost"]) fun _ _ _ _ _ _ us hl => match us, hl with | [_, _, _], _ => rfl
  have me_WindowMeter_wait : Meth K C_WindowMeter "wait" f9 := ⟨a9, i9, k9⟩
  have fn_WindowMeter_wait := F9
  have bi_WindowMeter_wait := b9
  have F10 : C8.Fun K "take" "WindowMeter.take" s_WindowMeter_take f10 _ := ⟨⟨oc10, od10, .none, kV10, dc10, pm10, an10, cd10, ct10, sl10, rfl, l10, c10⟩⟩
  have b10 : Binds K _ ["self", "moment", "cost"] [] := F10.binds rfl (ps := ["self", "moment", "cost"]) fun _ _ _ _ _ _ us hl => match us, hl with | [_, _, _], _ => rfl
  have me_WindowMeter_take : Meth K C_WindowMeter "take" f10 := ⟨a10, i10, k10⟩
  have fn_WindowMeter_take := F10
  have bi_WindowMeter_take := b10
  have F11 : C8.Fun K "kept" "WindowMeter.kept" s_WindowMeter_kept f11 _ := ⟨⟨oc11, od11, .none, kV11, dc11, pm11, an11, cd11, ct11, sl11, rfl, l11, c11⟩⟩
  have b11 : Binds K _ ["self"] [] := F11.binds rfl (ps := ["self"]) fun _ _ _ _ _ _ us hl => match us, hl with | [_], _ => rfl
  have me_WindowMeter_kept : Meth K C_WindowMeter "kept" f11 := ⟨a11, i11, k11⟩
  have fn_WindowMeter_kept := F11
  have bi_WindowMeter_kept := b11
  have F12 : C8.Fun K "_forget" "WindowMeter._forget" s_WindowMeter__forget f12 _ := ⟨⟨oc12, od12, .none, kV12, dc12, pm12, an12, cd12, ct12, sl12, rfl, l12, c12⟩⟩
  have b12 : Binds K _ ["self", "moment"] [] := F12.binds rfl (ps := ["self", "moment"]) fun _ _ _ _ _ _ us hl => match us, hl with | [_, _], _ => rfl
  have me_WindowMeter__forget : Meth K C_WindowMeter "_forget" f12 := ⟨a12, i12, k12⟩
  have fn_WindowMeter__forget := F12
  have bi_WindowMeter__forget := b12
  have cl_Jar : Cls K C_Jar := ⟨pg_Jar, hd_Jar, po_Jar, sa_Jar⟩
  have kl_Jar : ClJar K C_Jar := ⟨cl_Jar, n_Jar_0, n_Jar_1⟩
  have F13 : C8.Fun K "__init__" "Jar.__init__" s_Jar_init f13 _ := ⟨⟨oc13, od13, .none, kV13, dc13, pm13, an13, cd13, ct13, sl13, rfl, l13, c13⟩⟩
  have b13 : Binds K _ ["self", "size", "flow"] [] := F13.binds rfl (ps := ["self", "size", "flow"]) fun _ _ _ _ _ _ us hl => match us, hl with | [_, _, _], _ => rfl
  have M_Jar : Mk K C_Jar f13 := ⟨mk_Jar, a13, i13, kc_Jar⟩
  have mg_Jar := PySem.W.mg_of X G aC_Jar
  have fn_Jar_init := F13
  have bi_Jar_init := b13
  have F14 : C8.Fun K "meter" "Jar.meter" s_Jar_meter f14 _ := ⟨⟨oc14, od14, .none, kV14, dc14, pm14, an14, cd14, ct14, sl14, rfl, l14, c14⟩⟩
  have b14 : Binds K _ ["self"] [] := F14.binds rfl (ps := ["self"]) fun _ _ _ _ _ _ us hl => match us, hl with | [_], _ => rfl
  have me_Jar_meter : Meth K C_Jar "meter" f14 := ⟨a14, i14, k14⟩
  have fn_Jar_meter := F14
  have bi_Jar_meter := b14
  have cl_Window : Cls K C_Window := ⟨pg_Window, hd_Window, po_Window, sa_Window⟩
  have kl_Window : ClWin K C_Window := ⟨cl_Window, n_Window_0, n_Window_1⟩
  have F15 : C8.Fun K "__init__" "Window.__init__" s_Window_init f15 _ := ⟨⟨oc15, od15, .none, kV15, dc15, pm15, an15, cd15, ct15, sl15, rfl, l15, c15⟩⟩
  have b15 : Binds K _ ["self", "most", "span"] [] := F15.binds rfl (ps := ["self", "most", "span"]) fun _ _ _ _ _ _ us hl => match us, hl with | [_, _, _], _ => rfl
  have M_Window : Mk K C_Window f15 := ⟨mk_Window, a15, i15, kc_Window⟩
  have mg_Window := PySem.W.mg_of X G aC_Window
  have fn_Window_init := F15
  have bi_Window_init := b15
  have F16 : C8.Fun K "meter" "Window.meter" s_Window_meter f16 _ := ⟨⟨oc16, od16, .none, kV16, dc16, pm16, an16, cd16, ct16, sl16, rfl, l16, c16⟩⟩
  have b16 : Binds K _ ["self"] [] := F16.binds rfl (ps := ["self"]) fun _ _ _ _ _ _ us hl => match us, hl with | [_], _ => rfl
  have me_Window_meter : Meth K C_Window "meter" f16 := ⟨a16, i16, k16⟩
  have fn_Window_meter := F16
  have bi_Window_meter := b16
  have cl_Gate : Cls K C_Gate := ⟨pg_Gate, hd_Gate, po_Gate, sa_Gate⟩
  have kl_Gate : ClGt K C_Gate := ⟨cl_Gate, n_Gate_0, n_Gate_1, n_Gate_2, n_Gate_3⟩
  have F17 : C8.Fun K "__init__" "Gate.__init__" s_Gate_init f17 _ := ⟨⟨oc17, od17, .ref T17, kV17, dc17, pm17, an17, cd17, ct17, sl17, rfl, l17, c17⟩⟩
  have FD17 : L2.FunD K "__init__" "Gate.__init__" (C8.fnArgs s_Gate_init) (C8.fnBody s_Gate_init) (C8.fnScope s_Gate_init) [.non] [] f17 _ := ⟨⟨oc17, od17, .ref T17, kV17, dc17, pm17, an17, cd17, ct17, sl17, rfl, l17, c17, .inr ⟨by simp, T17, _, [.none], mT17, rfl, lT17, rfl, .cons rfl .nil⟩, .inl rfl⟩, k17⟩
  obtain ⟨ds17, vd17, b17⟩ := FD17.binds1 (ps := ["self", "own", "common"]) 3 1 (by simp) rfl fun T kV doc pm an cdv ct us its h1 h2 => match us, h1, its, h2 with | [_, _, _], _, [_], _ => ⟨_, rfl, rfl⟩
  obtain rfl : ds17 = [] := by cases vd17; rfl
  obtain ⟨dsx17, vdx17, bx17⟩ := FD17.binds1 (ps := ["self", "own", "common"]) 2 0 (by simp) rfl fun T kV doc pm an cdv ct us its h1 h2 => match us, h1, its, h2 with | [_, _], _, [_], _ => ⟨_, rfl, rfl⟩
  have bix_Gate := bx17
  have vdx_Gate := vdx17
  have M_Gate : Mk K C_Gate f17 := ⟨mk_Gate, a17, i17, kc_Gate⟩
  have mg_Gate := PySem.W.mg_of X G aC_Gate
  have fn_Gate_init := F17
  have bi_Gate_init := b17
  have F18 : C8.Fun K "ask" "Gate.ask" s_Gate_ask f18 _ := ⟨⟨oc18, od18, .none, kV18, dc18, pm18, an18, cd18, ct18, sl18, rfl, l18, c18⟩⟩
  have b18 : Binds K _ ["self", "name", "moment", "cost"] [] := F18.binds rfl (ps := ["self", "name", "moment", "cost"]) fun _ _ _ _ _ _ us hl => match us, hl with | [_, _, _, _], _ => rfl
  have me_Gate_ask : Meth K C_Gate "ask" f18 := ⟨a18, i18, k18⟩
  have fn_Gate_ask := F18
  have bi_Gate_ask := b18
  have F19 : C8.Fun K "visit" "Gate.visit" s_Gate_visit f19 _ := ⟨⟨oc19, od19, .none, kV19, dc19, pm19, an19, cd19, ct19, sl19, rfl, l19, c19⟩⟩
  have b19 : Binds K _ ["self", "name", "moment", "cost"] [] := F19.binds rfl (ps := ["self", "name", "moment", "cost"]) fun _ _ _ _ _ _ us hl => match us, hl with | [_, _, _, _], _ => rfl
  have me_Gate_visit : Meth K C_Gate "visit" f19 := ⟨a19, i19, k19⟩
  have fn_Gate_visit := F19
  have bi_Gate_visit := b19
  have F20 : C8.Fun K "names" "Gate.names" s_Gate_names f20 _ := ⟨⟨oc20, od20, .none, kV20, dc20, pm20, an20, cd20, ct20, sl20, rfl, l20, c20⟩⟩
  have b20 : Binds K _ ["self"] [] := F20.binds rfl (ps := ["self"]) fun _ _ _ _ _ _ us hl => match us, hl with | [_], _ => rfl
  have me_Gate_names : Meth K C_Gate "names" f20 := ⟨a20, i20, k20⟩
  have fn_Gate_names := F20
  have bi_Gate_names := b20
  have F21 : C8.Fun K "kept" "Gate.kept" s_Gate_kept f21 _ := ⟨⟨oc21, od21, .none, kV21, dc21, pm21, an21, cd21, ct21, sl21, rfl, l21, c21⟩⟩
  have b21 : Binds K _ ["self"] [] := F21.binds rfl (ps := ["self"]) fun _ _ _ _ _ _ us hl => match us, hl with | [_], _ => rfl
  have me_Gate_kept : Meth K C_Gate "kept" f21 := ⟨a21, i21, k21⟩
  have fn_Gate_kept := F21
  have bi_Gate_kept := b21
  have F22 : C8.Fun K "_check" "Gate._check" s_Gate__check f22 _ := ⟨⟨oc22, od22, .none, kV22, dc22, pm22, an22, cd22, ct22, sl22, rfl, l22, c22⟩⟩
  have b22 : Binds K _ ["self", "name", "moment", "cost"] [] := F22.binds rfl (ps := ["self", "name", "moment", "cost"]) fun _ _ _ _ _ _ us hl => match us, hl with | [_, _, _, _], _ => rfl
  have me_Gate__check : Meth K C_Gate "_check" f22 := ⟨a22, i22, k22⟩
  have fn_Gate__check := F22
  have bi_Gate__check := b22
  have F23 : C8.Fun K "_meters_of" "Gate._meters_of" s_Gate__meters_of f23 _ := ⟨⟨oc23, od23, .none, kV23, dc23, pm23, an23, cd23, ct23, sl23, rfl, l23, c23⟩⟩
  have b23 : Binds K _ ["self", "name"] [] := F23.binds rfl (ps := ["self", "name"]) fun _ _ _ _ _ _ us hl => match us, hl with | [_, _], _ => rfl
  have me_Gate__meters_of : Meth K C_Gate "_meters_of" f23 := ⟨a23, i23, k23⟩
  have fn_Gate__meters_of := F23
  have bi_Gate__meters_of := b23
  have F24 : C8.Fun K "_answer" "Gate._answer" s_Gate__answer f24 _ := ⟨⟨oc24, od24, .none, kV24, dc24, pm24, an24, cd24, ct24, sl24, rfl, l24, c24⟩⟩
  have b24 : Binds K _ ["self", "own", "moment", "cost"] [] := F24.binds rfl (ps := ["self", "own", "moment", "cost"]) fun _ _ _ _ _ _ us hl => match us, hl with | [_, _, _, _], _ => rfl
  have me_Gate__answer : Meth K C_Gate "_answer" f24 := ⟨a24, i24, k24⟩
  have fn_Gate__answer := F24
  have bi_Gate__answer := b24
  have cl_Player : Cls K C_Player := ⟨pg_Player, hd_Player, po_Player, sa_Player⟩
  have kl_Player : ClPl K C_Player := ⟨cl_Player, n_Player_0, n_Player_1⟩
  have F25 : C8.Fun K "__init__" "Player.__init__" s_Player_init f25 _ := ⟨⟨oc25, od25, .none, kV25, dc25, pm25, an25, cd25, ct25, sl25, rfl, l25, c25⟩⟩
  have b25 : Binds K _ ["self"] [] := F25.binds rfl (ps := ["self"]) fun _ _ _ _ _ _ us hl => match us, hl with | [_], _ => rfl
  have M_Player : Mk K C_Player f25 := ⟨mk_Player, a25, i25, kc_Player⟩
  have mg_Player := PySem.W.mg_of X G aC_Player
  have fn_Player_init := F25
  have bi_Player_init := b25
  have F26 : C8.Fun K "answer" "Player.answer" s_Player_answer f26 _ := ⟨⟨oc26, od26, .none, kV26, dc26, pm26, an26, cd26, ct26, sl26, rfl, l26, c26⟩⟩
  have b26 : Binds K _ ["self", "words"] [] := F26.binds rfl (ps := ["self", "words"]) fun _ _ _ _ _ _ us hl => match us, hl with | [_, _], _ => rfl
  have me_Player_answer : Meth K C_Player "answer" f26 := ⟨a26, i26, k26⟩
  have fn_Player_answer := F26
  have bi_Player_answer := b26
  have F27 : C8.Fun K "_add_bound" "Player._add_bound" s_Player__add_bound f27 _ := ⟨⟨oc27, od27, .none, kV27, dc27, pm27, an27, cd27, ct27, sl27, rfl, l27, c27⟩⟩
  have b27 : Binds K _ ["self", "words"] [] := F27.binds rfl (ps := ["self", "words"]) fun _ _ _ _ _ _ us hl => match us, hl with | [_, _], _ => rfl
  have me_Player__add_bound : Meth K C_Player "_add_bound" f27 := ⟨a27, i27, k27⟩
  have fn_Player__add_bound := F27
  have bi_Player__add_bound := b27
  have F28 : C8.Fun K "_ask_or_visit" "Player._ask_or_visit" s_Player__ask_or_visit f28 _ := ⟨⟨oc28, od28, .none, kV28, dc28, pm28, an28, cd28, ct28, sl28, rfl, l28, c28⟩⟩
  have b28 : Binds K _ ["self", "words"] [] := F28.binds rfl (ps := ["self", "words"]) fun _ _ _ _ _ _ us hl => match us, hl with | [_, _], _ => rfl
  have me_Player__ask_or_visit : Meth K C_Player "_ask_or_visit" f28 := ⟨a28, i28, k28⟩
  have fn_Player__ask_or_visit := F28
  have bi_Player__ask_or_visit := b28
  have F29 : C8.Fun K "_tell" "Player._tell" s_Player__tell f29 _ := ⟨⟨oc29, od29, .none, kV29, dc29, pm29, an29, cd29, ct29, sl29, rfl, l29, c29⟩⟩
  have b29 : Binds K _ ["self", "words"] [] := F29.binds rfl (ps := ["self", "words"]) fun _ _ _ _ _ _ us hl => match us, hl with | [_, _], _ => rfl
  have me_Player__tell : Meth K C_Player "_tell" f29 := ⟨a29, i29, k29⟩
  have fn_Player__tell := F29
  have bi_Player__tell := b29
  have F30 : C8.Fun K "_made_gate" "Player._made_gate" s_Player__made_gate f30 _ := ⟨⟨oc30, od30, .none, kV30, dc30, pm30, an30, cd30, ct30, sl30, rfl, l30, c30⟩⟩
  have b30 : Binds K _ ["self"] [] := F30.binds rfl (ps := ["self"]) fun _ _ _ _ _ _ us hl => match us, hl with | [_], _ => rfl
  have me_Player__made_gate : Meth K C_Player "_made_gate" f30 := ⟨a30, i30, k30⟩
  have fn_Player__made_gate := F30
  have bi_Player__made_gate := b30
  have R_NoBound : Rs K mg "NoBound" Cx0 := ⟨PySem.W.mg_of X G a_0, x_0, kp_0, hs_0, ty_0⟩
  have R_NoName : Rs K mg "NoName" Cx1 := ⟨PySem.W.mg_of X G a_1, x_1, kp_1, hs_1, ty_1⟩
  have R_NoMoment : Rs K mg "NoMoment" Cx2 := ⟨PySem.W.mg_of X G a_2, x_2, kp_2, hs_2, ty_2⟩
  have R_Late : Rs K mg "Late" Cx3 := ⟨PySem.W.mg_of X G a_3, x_3, kp_3, hs_3, ty_3⟩
  have R_NoCost : Rs K mg "NoCost" Cx4 := ⟨PySem.W.mg_of X G a_4, x_4, kp_4, hs_4, ty_4⟩
  have R_BadRow : Rs K mg "BadRow" Cx5 := ⟨PySem.W.mg_of X G a_5, x_5, kp_5, hs_5, ty_5⟩
  have E_0 : ExcC K Cx0 := ⟨hg_0, hk_0, hs_0, hd_0, ha_0, hn, ht, hm_0⟩
  have E_1 : ExcC K Cx1 := ⟨hg_1, hk_1, hs_1, hd_1, ha_1, hn, ht, hm_1⟩
  have E_2 : ExcC K Cx2 := ⟨hg_2, hk_2, hs_2, hd_2, ha_2, hn, ht, hm_2⟩
  have E_3 : ExcC K Cx3 := ⟨hg_3, hk_3, hs_3, hd_3, ha_3, hn, ht, hm_3⟩
  have E_4 : ExcC K Cx4 := ⟨hg_4, hk_4, hs_4, hd_4, ha_4, hn, ht, hm_4⟩
  have E_5 : ExcC K Cx5 := ⟨hg_5, hk_5, hs_5, hd_5, ha_5, hn, ht, hm_5⟩
  have kkA : ∀ i j, i < 6 → j < 6 → PySem.W.kitOne K (.ref (([Cx0, Cx1, Cx2, Cx3, Cx4, Cx5] : List Addr).getD i 0)) (.ref (([Cx0, Cx1, Cx2, Cx3, Cx4, Cx5] : List Addr).getD j 0)) = some (decide (i = j)) := by
    intro i j hi hj
    match i, hi, j, hj with
    | 0, _, 0, _ => exact kit_yes hd_0 ty_0 s_0_0
    | 0, _, 1, _ => exact kit_no hd_1 ty_1 s_0_1 s_0_0
    | 0, _, 2, _ => exact kit_no hd_2 ty_2 s_0_2 s_0_0
    | 0, _, 3, _ => exact kit_no hd_3 ty_3 s_0_3 s_0_0
    | 0, _, 4, _ => exact kit_no hd_4 ty_4 s_0_4 s_0_0
    | 0, _, 5, _ => exact kit_no hd_5 ty_5 s_0_5 s_0_0
    | 1, _, 0, _ => exact kit_no hd_0 ty_0 s_1_0 s_1_1
    | 1, _, 1, _ => exact kit_yes hd_1 ty_1 s_1_1
    | 1, _, 2, _ => exact kit_no hd_2 ty_2 s_1_2 s_1_1
    | 1, _, 3, _ => exact kit_no hd_3 ty_3 s_1_3 s_1_1
    | 1, _, 4, _ => exact kit_no hd_4 ty_4 s_1_4 s_1_1
    | 1, _, 5, _ => exact kit_no hd_5 ty_5 s_1_5 s_1_1
    | 2, _, 0, _ => exact kit_no hd_0 ty_0 s_2_0 s_2_2
    | 2, _, 1, _ => exact kit_no hd_1 ty_1 s_2_1 s_2_2
    | 2, _, 2, _ => exact kit_yes hd_2 ty_2 s_2_2
    | 2, _, 3, _ => exact kit_no hd_3 ty_3 s_2_3 s_2_2
    | 2, _, 4, _ => exact kit_no hd_4 ty_4 s_2_4 s_2_2
    | 2, _, 5, _ => exact kit_no hd_5 ty_5 s_2_5 s_2_2
    | 3, _, 0, _ => exact kit_no hd_0 ty_0 s_3_0 s_3_3
    | 3, _, 1, _ => exact kit_no hd_1 ty_1 s_3_1 s_3_3
    | 3, _, 2, _ => exact kit_no hd_2 ty_2 s_3_2 s_3_3
    | 3, _, 3, _ => exact kit_yes hd_3 ty_3 s_3_3
    | 3, _, 4, _ => exact kit_no hd_4 ty_4 s_3_4 s_3_3
    | 3, _, 5, _ => exact kit_no hd_5 ty_5 s_3_5 s_3_3
    | 4, _, 0, _ => exact kit_no hd_0 ty_0 s_4_0 s_4_4
    | 4, _, 1, _ => exact kit_no hd_1 ty_1 s_4_1 s_4_4
    | 4, _, 2, _ => exact kit_no hd_2 ty_2 s_4_2 s_4_4
    | 4, _, 3, _ => exact kit_no hd_3 ty_3 s_4_3 s_4_4
    | 4, _, 4, _ => exact kit_yes hd_4 ty_4 s_4_4
    | 4, _, 5, _ => exact kit_no hd_5 ty_5 s_4_5 s_4_4
    | 5, _, 0, _ => exact kit_no hd_0 ty_0 s_5_0 s_5_5
    | 5, _, 1, _ => exact kit_no hd_1 ty_1 s_5_1 s_5_5
    | 5, _, 2, _ => exact kit_no hd_2 ty_2 s_5_2 s_5_5
    | 5, _, 3, _ => exact kit_no hd_3 ty_3 s_5_3 s_5_5
    | 5, _, 4, _ => exact kit_no hd_4 ty_4 s_5_4 s_5_5
    | 5, _, 5, _ => exact kit_yes hd_5 ty_5 s_5_5
    | n + 6, h, _, _ => exact absurd h (by omega)
    | _, _, n + 6, h => exact absurd h (by omega)
  have exA : ∀ i, i < 6 → ExcC K (([Cx0, Cx1, Cx2, Cx3, Cx4, Cx5] : List Addr).getD i 0) := by
    intro i hi
    match i, hi with
    | 0, _ => exact E_0
    | 1, _ => exact E_1
    | 2, _ => exact E_2
    | 3, _ => exact E_3
    | 4, _ => exact E_4
    | 5, _ => exact E_5
    | n + 6, h => exact absurd h (by omega)
  have emA : ∀ i, i < 6 → PySem.W.exmOne K (.ref (([Cx0, Cx1, Cx2, Cx3, Cx4, Cx5] : List Addr).getD i 0)) (.ref cG) = some true := by
    intro i hi
    match i, hi with
    | 0, _ => exact PySem.W.exm_ref sGB dG tG sg_0
    | 1, _ => exact PySem.W.exm_ref sGB dG tG sg_1
    | 2, _ => exact PySem.W.exm_ref sGB dG tG sg_2
    | 3, _ => exact PySem.W.exm_ref sGB dG tG sg_3
    | 4, _ => exact PySem.W.exm_ref sGB dG tG sg_4
    | 5, _ => exact PySem.W.exm_ref sGB dG tG sg_5
    | n + 6, h => exact absurd h (by omega)
  have kVA : ∀ i, i < 6 → PySem.W.kitOne K (.ref (([Cx0, Cx1, Cx2, Cx3, Cx4, Cx5] : List Addr).getD i 0)) (.type "ValueError") = some true := by
    intro i hi
    match i, hi with
    | 0, _ => exact kit_ve sv_0
    | 1, _ => exact kit_ve sv_1
    | 2, _ => exact kit_ve sv_2
    | 3, _ => exact kit_ve sv_3
    | 4, _ => exact kit_ve sv_4
    | 5, _ => exact kit_ve sv_5
    | n + 6, h => exact absurd h (by omega)
  have eeA : ∀ i j, i < 6 → j < 6 → PySem.W.exmOne K (.ref (([Cx0, Cx1, Cx2, Cx3, Cx4, Cx5] : List Addr).getD i 0)) (.ref (([Cx0, Cx1, Cx2, Cx3, Cx4, Cx5] : List Addr).getD j 0)) = some (decide (i = j)) := by
    intro i j hi hj
    match i, hi, j, hj with
    | 0, _, 0, _ => exact PySem.W.exm_ref hs_0 hd_0 ty_0 s_0_0
    | 0, _, 1, _ => exact PySem.W.exm_ref hs_1 hd_1 ty_1 s_0_1
    | 0, _, 2, _ => exact PySem.W.exm_ref hs_2 hd_2 ty_2 s_0_2
    | 0, _, 3, _ => exact PySem.W.exm_ref hs_3 hd_3 ty_3 s_0_3
    | 0, _, 4, _ => exact PySem.W.exm_ref hs_4 hd_4 ty_4 s_0_4
    | 0, _, 5, _ => exact PySem.W.exm_ref hs_5 hd_5 ty_5 s_0_5
    | 1, _, 0, _ => exact PySem.W.exm_ref hs_0 hd_0 ty_0 s_1_0
    | 1, _, 1, _ => exact PySem.W.exm_ref hs_1 hd_1 ty_1 s_1_1
    | 1, _, 2, _ => exact PySem.W.exm_ref hs_2 hd_2 ty_2 s_1_2
    | 1, _, 3, _ => exact PySem.W.exm_ref hs_3 hd_3 ty_3 s_1_3
    | 1, _, 4, _ => exact PySem.W.exm_ref hs_4 hd_4 ty_4 s_1_4
    | 1, _, 5, _ => exact PySem.W.exm_ref hs_5 hd_5 ty_5 s_1_5
    | 2, _, 0, _ => exact PySem.W.exm_ref hs_0 hd_0 ty_0 s_2_0
    | 2, _, 1, _ => exact PySem.W.exm_ref hs_1 hd_1 ty_1 s_2_1
    | 2, _, 2, _ => exact PySem.W.exm_ref hs_2 hd_2 ty_2 s_2_2
    | 2, _, 3, _ => exact PySem.W.exm_ref hs_3 hd_3 ty_3 s_2_3
    | 2, _, 4, _ => exact PySem.W.exm_ref hs_4 hd_4 ty_4 s_2_4
    | 2, _, 5, _ => exact PySem.W.exm_ref hs_5 hd_5 ty_5 s_2_5
    | 3, _, 0, _ => exact PySem.W.exm_ref hs_0 hd_0 ty_0 s_3_0
    | 3, _, 1, _ => exact PySem.W.exm_ref hs_1 hd_1 ty_1 s_3_1
    | 3, _, 2, _ => exact PySem.W.exm_ref hs_2 hd_2 ty_2 s_3_2
    | 3, _, 3, _ => exact PySem.W.exm_ref hs_3 hd_3 ty_3 s_3_3
    | 3, _, 4, _ => exact PySem.W.exm_ref hs_4 hd_4 ty_4 s_3_4
    | 3, _, 5, _ => exact PySem.W.exm_ref hs_5 hd_5 ty_5 s_3_5
    | 4, _, 0, _ => exact PySem.W.exm_ref hs_0 hd_0 ty_0 s_4_0
    | 4, _, 1, _ => exact PySem.W.exm_ref hs_1 hd_1 ty_1 s_4_1
    | 4, _, 2, _ => exact PySem.W.exm_ref hs_2 hd_2 ty_2 s_4_2
    | 4, _, 3, _ => exact PySem.W.exm_ref hs_3 hd_3 ty_3 s_4_3
    | 4, _, 4, _ => exact PySem.W.exm_ref hs_4 hd_4 ty_4 s_4_4
    | 4, _, 5, _ => exact PySem.W.exm_ref hs_5 hd_5 ty_5 s_4_5
    | 5, _, 0, _ => exact PySem.W.exm_ref hs_0 hd_0 ty_0 s_5_0
    | 5, _, 1, _ => exact PySem.W.exm_ref hs_1 hd_1 ty_1 s_5_1
    | 5, _, 2, _ => exact PySem.W.exm_ref hs_2 hd_2 ty_2 s_5_2
    | 5, _, 3, _ => exact PySem.W.exm_ref hs_3 hd_3 ty_3 s_5_3
    | 5, _, 4, _ => exact PySem.W.exm_ref hs_4 hd_4 ty_4 s_5_4
    | 5, _, 5, _ => exact PySem.W.exm_ref hs_5 hd_5 ty_5 s_5_5
    | n + 6, h, _, _ => exact absurd h (by omega)
    | _, _, n + 6, h => exact absurd h (by omega)
  have KR : Kdr K cG (fun i => ([Cx0, Cx1, Cx2, Cx3, Cx4, Cx5] : List Addr).getD i 0) 6 := ⟨exA, emA, kVA, kkA⟩
  have GG : Gcl mg cG (fun i => ([Cx0, Cx1, Cx2, Cx3, Cx4, Cx5] : List Addr).getD i 0) C_Jar C_Window := ⟨Gc, PySem.W.mg_of X G aG, PySem.W.mg_of X G a_0, PySem.W.mg_of X G a_1, PySem.W.mg_of X G a_2, PySem.W.mg_of X G a_3, PySem.W.mg_of X G a_4, PySem.W.mg_of X G a_5, PySem.W.mg_of X G aC_Jar, PySem.W.mg_of X G aC_Window⟩
  have BB : BdC K C_Jar C_Window := ⟨cl_Jar, cl_Window, ⟨haJ, hmJ⟩, ⟨haW, hmW⟩, hn, ht, kit_no hd_Jar tJ wjs wws, hd_Jar, hd_Window, tJ, tW⟩
  have F31 : C8.Fun K "is_within" "is_within" s_is_within f31 _ := ⟨⟨oc31, od31, .none, kV31, dc31, pm31, an31, cd31, ct31, sl31, rfl, l31, c31⟩⟩
  have b31 : Binds K _ ["value", "least", "largest"] [] := F31.binds rfl (ps := ["value", "least", "largest"]) fun _ _ _ _ _ _ us hl => match us, hl with | [_, _, _], _ => rfl
  have df_is_within : C8.Def K mg "is_within" s_is_within f31 _ := ⟨F31, PySem.W.mg_of X G a31, k31⟩
  have bi_is_within := b31
  have F32 : C8.Fun K "_place_reaching" "_place_reaching" s_place_reaching f32 _ := ⟨⟨oc32, od32, .none, kV32, dc32, pm32, an32, cd32, ct32, sl32, rfl, l32, c32⟩⟩
  have b32 : Binds K _ ["rows", "total"] [] := F32.binds rfl (ps := ["rows", "total"]) fun _ _ _ _ _ _ us hl => match us, hl with | [_, _], _ => rfl
  have df_place_reaching : C8.Def K mg "_place_reaching" s_place_reaching f32 _ := ⟨F32, PySem.W.mg_of X G a32, k32⟩
  have bi_place_reaching := b32
  have F33 : C8.Fun K "new_meters" "new_meters" s_new_meters f33 _ := ⟨⟨oc33, od33, .none, kV33, dc33, pm33, an33, cd33, ct33, sl33, rfl, l33, c33⟩⟩
  have b33 : Binds K _ ["bounds"] [] := F33.binds rfl (ps := ["bounds"]) fun _ _ _ _ _ _ us hl => match us, hl with | [_], _ => rfl
  have df_new_meters : C8.Def K mg "new_meters" s_new_meters f33 _ := ⟨F33, PySem.W.mg_of X G a33, k33⟩
  have bi_new_meters := b33
  have F34 : C8.Fun K "wait_for_all" "wait_for_all" s_wait_for_all f34 _ := ⟨⟨oc34, od34, .none, kV34, dc34, pm34, an34, cd34, ct34, sl34, rfl, l34, c34⟩⟩
  have b34 : Binds K _ ["meters", "moment", "cost"] [] := F34.binds rfl (ps := ["meters", "moment", "cost"]) fun _ _ _ _ _ _ us hl => match us, hl with | [_, _, _], _ => rfl
  have df_wait_for_all : C8.Def K mg "wait_for_all" s_wait_for_all f34 _ := ⟨F34, PySem.W.mg_of X G a34, k34⟩
  have bi_wait_for_all := b34
  have F35 : C8.Fun K "take_by_all" "take_by_all" s_take_by_all f35 _ := ⟨⟨oc35, od35, .none, kV35, dc35, pm35, an35, cd35, ct35, sl35, rfl, l35, c35⟩⟩
  have b35 : Binds K _ ["meters", "moment", "cost"] [] := F35.binds rfl (ps := ["meters", "moment", "cost"]) fun _ _ _ _ _ _ us hl => match us, hl with | [_, _, _], _ => rfl
  have df_take_by_all : C8.Def K mg "take_by_all" s_take_by_all f35 _ := ⟨F35, PySem.W.mg_of X G a35, k35⟩
  have bi_take_by_all := b35
  have F36 : C8.Fun K "check_bound" "check_bound" s_check_bound f36 _ := ⟨⟨oc36, od36, .none, kV36, dc36, pm36, an36, cd36, ct36, sl36, rfl, l36, c36⟩⟩
  have b36 : Binds K _ ["bound"] [] := F36.binds rfl (ps := ["bound"]) fun _ _ _ _ _ _ us hl => match us, hl with | [_], _ => rfl
  have df_check_bound : C8.Def K mg "check_bound" s_check_bound f36 _ := ⟨F36, PySem.W.mg_of X G a36, k36⟩
  have bi_check_bound := b36
  have F37 : C8.Fun K "copied_bounds" "copied_bounds" s_copied_bounds f37 _ := ⟨⟨oc37, od37, .none, kV37, dc37, pm37, an37, cd37, ct37, sl37, rfl, l37, c37⟩⟩
  have b37 : Binds K _ ["bounds"] [] := F37.binds rfl (ps := ["bounds"]) fun _ _ _ _ _ _ us hl => match us, hl with | [_], _ => rfl
  have df_copied_bounds : C8.Def K mg "copied_bounds" s_copied_bounds f37 _ := ⟨F37, PySem.W.mg_of X G a37, k37⟩
  have bi_copied_bounds := b37
  have F38 : C8.Fun K "check_moment" "check_moment" s_check_moment f38 _ := ⟨⟨oc38, od38, .none, kV38, dc38, pm38, an38, cd38, ct38, sl38, rfl, l38, c38⟩⟩
  have b38 : Binds K _ ["moment"] [] := F38.binds rfl (ps := ["moment"]) fun _ _ _ _ _ _ us hl => match us, hl with | [_], _ => rfl
  have df_check_moment : C8.Def K mg "check_moment" s_check_moment f38 _ := ⟨F38, PySem.W.mg_of X G a38, k38⟩
  have bi_check_moment := b38
  have F39 : C8.Fun K "check_cost" "check_cost" s_check_cost f39 _ := ⟨⟨oc39, od39, .none, kV39, dc39, pm39, an39, cd39, ct39, sl39, rfl, l39, c39⟩⟩
  have b39 : Binds K _ ["cost"] [] := F39.binds rfl (ps := ["cost"]) fun _ _ _ _ _ _ us hl => match us, hl with | [_], _ => rfl
  have df_check_cost : C8.Def K mg "check_cost" s_check_cost f39 _ := ⟨F39, PySem.W.mg_of X G a39, k39⟩
  have bi_check_cost := b39
  have F40 : C8.Fun K "_is_name" "_is_name" s_is_name f40 _ := ⟨⟨oc40, od40, .none, kV40, dc40, pm40, an40, cd40, ct40, sl40, rfl, l40, c40⟩⟩
  have b40 : Binds K _ ["name"] [] := F40.binds rfl (ps := ["name"]) fun _ _ _ _ _ _ us hl => match us, hl with | [_], _ => rfl
  have df_is_name : C8.Def K mg "_is_name" s_is_name f40 _ := ⟨F40, PySem.W.mg_of X G a40, k40⟩
  have bi_is_name := b40
  have F41 : C8.Fun K "play" "play" s_play f41 _ := ⟨⟨oc41, od41, .none, kV41, dc41, pm41, an41, cd41, ct41, sl41, rfl, l41, c41⟩⟩
  have b41 : Binds K _ ["text"] [] := F41.binds rfl (ps := ["text"]) fun _ _ _ _ _ _ us hl => match us, hl with | [_], _ => rfl
  have df_play : C8.Def K mg "play" s_play f41 _ := ⟨F41, PySem.W.mg_of X G a41, k41⟩
  have bi_play := b41
  have F42 : C8.Fun K "_answer_or_refusal" "_answer_or_refusal" s_answer_or_refusal f42 _ := ⟨⟨oc42, od42, .none, kV42, dc42, pm42, an42, cd42, ct42, sl42, rfl, l42, c42⟩⟩
  have b42 : Binds K _ ["player", "words"] [] := F42.binds rfl (ps := ["player", "words"]) fun _ _ _ _ _ _ us hl => match us, hl with | [_, _], _ => rfl
  have df_answer_or_refusal : C8.Def K mg "_answer_or_refusal" s_answer_or_refusal f42 _ := ⟨F42, PySem.W.mg_of X G a42, k42⟩
  have bi_answer_or_refusal := b42
  have F43 : C8.Fun K "_check_length" "_check_length" s_check_length f43 _ := ⟨⟨oc43, od43, .none, kV43, dc43, pm43, an43, cd43, ct43, sl43, rfl, l43, c43⟩⟩
  have b43 : Binds K _ ["words", "many"] [] := F43.binds rfl (ps := ["words", "many"]) fun _ _ _ _ _ _ us hl => match us, hl with | [_, _], _ => rfl
  have df_check_length : C8.Def K mg "_check_length" s_check_length f43 _ := ⟨F43, PySem.W.mg_of X G a43, k43⟩
  have bi_check_length := b43
  have F44 : C8.Fun K "_number" "_number" s_number f44 _ := ⟨⟨oc44, od44, .none, kV44, dc44, pm44, an44, cd44, ct44, sl44, rfl, l44, c44⟩⟩
  have b44 : Binds K _ ["word"] [] := F44.binds rfl (ps := ["word"]) fun _ _ _ _ _ _ us hl => match us, hl with | [_], _ => rfl
  have df_number : C8.Def K mg "_number" s_number f44 _ := ⟨F44, PySem.W.mg_of X G a44, k44⟩
  have bi_number := b44
  have F45 : C8.Fun K "_shown" "_shown" s_shown f45 _ := ⟨⟨oc45, od45, .none, kV45, dc45, pm45, an45, cd45, ct45, sl45, rfl, l45, c45⟩⟩
  have b45 : Binds K _ ["told"] [] := F45.binds rfl (ps := ["told"]) fun _ _ _ _ _ _ us hl => match us, hl with | [_], _ => rfl
  have df_shown : C8.Def K mg "_shown" s_shown f45 _ := ⟨F45, PySem.W.mg_of X G a45, k45⟩
  have bi_shown := b45
  have F46 : C8.Fun K "_law_cell" "_law_cell" s_Lcell f46 _ := ⟨⟨oc46, od46, .none, kV46, dc46, pm46, an46, cd46, ct46, sl46, rfl, l46, c46⟩⟩
  have b46 : Binds K _ ["_law_script", "_law_k"] [] := F46.binds rfl (ps := ["_law_script", "_law_k"]) fun _ _ _ _ _ _ us hl => match us, hl with | [_, _], _ => rfl
  have df_Lcell : C8.Def K mg "_law_cell" s_Lcell f46 _ := ⟨F46, PySem.W.mg_of X G a46, k46⟩
  have bi_Lcell := b46
  have F47 : C8.Fun K "_law_bound" "_law_bound" s_Lbound f47 _ := ⟨⟨oc47, od47, .none, kV47, dc47, pm47, an47, cd47, ct47, sl47, rfl, l47, c47⟩⟩
  have b47 : Binds K _ ["_law_cell_here", "_law_scale_here"] [] := F47.binds rfl (ps := ["_law_cell_here", "_law_scale_here"]) fun _ _ _ _ _ _ us hl => match us, hl with | [_, _], _ => rfl
  have df_Lbound : C8.Def K mg "_law_bound" s_Lbound f47 _ := ⟨F47, PySem.W.mg_of X G a47, k47⟩
  have bi_Lbound := b47
  have F48 : C8.Fun K "_law_made" "_law_made" s_Lmade f48 _ := ⟨⟨oc48, od48, .none, kV48, dc48, pm48, an48, cd48, ct48, sl48, rfl, l48, c48⟩⟩
  have b48 : Binds K _ ["_law_bound_here"] [] := F48.binds rfl (ps := ["_law_bound_here"]) fun _ _ _ _ _ _ us hl => match us, hl with | [_], _ => rfl
  have df_Lmade : C8.Def K mg "_law_made" s_Lmade f48 _ := ⟨F48, PySem.W.mg_of X G a48, k48⟩
  have bi_Lmade := b48
  have F49 : C8.Fun K "_law_gap" "_law_gap" s_Lgap f49 _ := ⟨⟨oc49, od49, .none, kV49, dc49, pm49, an49, cd49, ct49, sl49, rfl, l49, c49⟩⟩
  have b49 : Binds K _ ["_law_cell_here"] [] := F49.binds rfl (ps := ["_law_cell_here"]) fun _ _ _ _ _ _ us hl => match us, hl with | [_], _ => rfl
  have df_Lgap : C8.Def K mg "_law_gap" s_Lgap f49 _ := ⟨F49, PySem.W.mg_of X G a49, k49⟩
  have bi_Lgap := b49
  have F50 : C8.Fun K "_law_cost" "_law_cost" s_Lcost f50 _ := ⟨⟨oc50, od50, .none, kV50, dc50, pm50, an50, cd50, ct50, sl50, rfl, l50, c50⟩⟩
  have b50 : Binds K _ ["_law_cell_here", "_law_scale_here"] [] := F50.binds rfl (ps := ["_law_cell_here", "_law_scale_here"]) fun _ _ _ _ _ _ us hl => match us, hl with | [_, _], _ => rfl
  have df_Lcost : C8.Def K mg "_law_cost" s_Lcost f50 _ := ⟨F50, PySem.W.mg_of X G a50, k50⟩
  have bi_Lcost := b50
  have F51 : C8.Fun K "_law_scale" "_law_scale" s_Lscale f51 _ := ⟨⟨oc51, od51, .none, kV51, dc51, pm51, an51, cd51, ct51, sl51, rfl, l51, c51⟩⟩
  have b51 : Binds K _ ["_law_cell_here"] [] := F51.binds rfl (ps := ["_law_cell_here"]) fun _ _ _ _ _ _ us hl => match us, hl with | [_], _ => rfl
  have df_Lscale : C8.Def K mg "_law_scale" s_Lscale f51 _ := ⟨F51, PySem.W.mg_of X G a51, k51⟩
  have bi_Lscale := b51
  have F52 : C8.Fun K "_law_kind" "_law_kind" s_Lkind f52 _ := ⟨⟨oc52, od52, .none, kV52, dc52, pm52, an52, cd52, ct52, sl52, rfl, l52, c52⟩⟩
  have b52 : Binds K _ ["_law_error"] [] := F52.binds rfl (ps := ["_law_error"]) fun _ _ _ _ _ _ us hl => match us, hl with | [_], _ => rfl
  have df_Lkind : C8.Def K mg "_law_kind" s_Lkind f52 _ := ⟨F52, PySem.W.mg_of X G a52, k52⟩
  have bi_Lkind := b52
  have F53 : C8.Fun K "_law_text" "_law_text" s_Ltext f53 _ := ⟨⟨oc53, od53, .none, kV53, dc53, pm53, an53, cd53, ct53, sl53, rfl, l53, c53⟩⟩
  have b53 : Binds K _ ["_law_found"] [] := F53.binds rfl (ps := ["_law_found"]) fun _ _ _ _ _ _ us hl => match us, hl with | [_], _ => rfl
  have df_Ltext : C8.Def K mg "_law_text" s_Ltext f53 _ := ⟨F53, PySem.W.mg_of X G a53, k53⟩
  have bi_Ltext := b53
  have F54 : C8.Fun K "_law_answer" "_law_answer" s_Lanswer f54 _ := ⟨⟨oc54, od54, .none, kV54, dc54, pm54, an54, cd54, ct54, sl54, rfl, l54, c54⟩⟩
  have b54 : Binds K _ ["_law_gate", "_law_asked"] [] := F54.binds rfl (ps := ["_law_gate", "_law_asked"]) fun _ _ _ _ _ _ us hl => match us, hl with | [_, _], _ => rfl
  have df_Lanswer : C8.Def K mg "_law_answer" s_Lanswer f54 _ := ⟨F54, PySem.W.mg_of X G a54, k54⟩
  have bi_Lanswer := b54
  have F55 : C8.Fun K "_law_spread" "_law_spread" s_Lspread f55 _ := ⟨⟨oc55, od55, .none, kV55, dc55, pm55, an55, cd55, ct55, sl55, rfl, l55, c55⟩⟩
  have b55 : Binds K _ ["_law_cell_here", "_law_words"] [] := F55.binds rfl (ps := ["_law_cell_here", "_law_words"]) fun _ _ _ _ _ _ us hl => match us, hl with | [_, _], _ => rfl
  have df_Lspread : C8.Def K mg "_law_spread" s_Lspread f55 _ := ⟨F55, PySem.W.mg_of X G a55, k55⟩
  have bi_Lspread := b55
  have F56 : C8.Fun K "_law_row" "_law_row" s_Lrow f56 _ := ⟨⟨oc56, od56, .none, kV56, dc56, pm56, an56, cd56, ct56, sl56, rfl, l56, c56⟩⟩
  have b56 : Binds K _ ["_law_cell_here", "_law_more", "_law_moment", "_law_scale_here"] [] := F56.binds rfl (ps := ["_law_cell_here", "_law_more", "_law_moment", "_law_scale_here"]) fun _ _ _ _ _ _ us hl => match us, hl with | [_, _, _, _], _ => rfl
  have df_Lrow : C8.Def K mg "_law_row" s_Lrow f56 _ := ⟨F56, PySem.W.mg_of X G a56, k56⟩
  have bi_Lrow := b56
  have F57 : C8.Fun K "law" "law" s_law f57 _ := ⟨⟨oc57, od57, .none, kV57, dc57, pm57, an57, cd57, ct57, sl57, rfl, l57, c57⟩⟩
  have b57 : Binds K _ ["_law_script"] [] := F57.binds rfl (ps := ["_law_script"]) fun _ _ _ _ _ _ us hl => match us, hl with | [_], _ => rfl
  have df_law : C8.Def K mg "law" s_law f57 _ := ⟨F57, PySem.W.mg_of X G a57, k57⟩
  have bi_law := b57
  refine ⟨PySem.W.fnOf "law" "law" (C8.fnArgs s_law) (C8.fnBody s_law) (C8.fnScope s_law) .none kV57 dc57 pm57 an57 cd57 ct57, fun s v => .of_eq rfl, fun base _ _ => ?_⟩
  have c_is := cal_is_within (P := l.prog) (w := w) (base := base) (mg := mg) T df_is_within bi_is_within
  have lvl := met_JarMeter__level_at (P := l.prog) (w := w) (base := base) (mg := mg) T kl_JarMeter me_JarMeter__level_at fn_JarMeter__level_at bi_JarMeter__level_at
  have canJ := met_JarMeter_can (P := l.prog) (w := w) (base := base) (mg := mg) kl_JarMeter lvl me_JarMeter_can fn_JarMeter_can bi_JarMeter_can
  have keptJ := met_JarMeter_kept (P := l.prog) (w := w) (base := base) (mg := mg) kl_JarMeter me_JarMeter_kept fn_JarMeter_kept bi_JarMeter_kept
  have waitJ := met_JarMeter_wait (P := l.prog) (w := w) (base := base) (mg := mg) kl_JarMeter lvl me_JarMeter_wait fn_JarMeter_wait bi_JarMeter_wait
  have takeJ := met_JarMeter_take (P := l.prog) (w := w) (base := base) (mg := mg) kl_JarMeter lvl me_JarMeter_take fn_JarMeter_take bi_JarMeter_take
  have makJM := mak_JarMeter2 (P := l.prog) (w := w) (base := base) (mg := mg) kl_JarMeter M_JarMeter mg_JarMeter fn_JarMeter_init bi_JarMeter_init
  have pr := cal_place_reaching (P := l.prog) (w := w) (base := base) (mg := mg) T df_place_reaching bi_place_reaching
  have waitW := met_WindowMeter_wait (P := l.prog) (w := w) (base := base) (mg := mg) T kl_WindowMeter pr me_WindowMeter_wait fn_WindowMeter_wait bi_WindowMeter_wait
  have canW := met_WindowMeter_can (P := l.prog) (w := w) (base := base) (mg := mg) kl_WindowMeter waitW me_WindowMeter_can fn_WindowMeter_can bi_WindowMeter_can
  have keptW := met_WindowMeter_kept (P := l.prog) (w := w) (base := base) (mg := mg) T kl_WindowMeter me_WindowMeter_kept fn_WindowMeter_kept bi_WindowMeter_kept
  have frg := met_WindowMeter__forget (P := l.prog) (w := w) (base := base) (mg := mg) T kl_WindowMeter me_WindowMeter__forget fn_WindowMeter__forget bi_WindowMeter__forget
  have takeW := met_WindowMeter_take (P := l.prog) (w := w) (base := base) (mg := mg) kl_WindowMeter frg me_WindowMeter_take fn_WindowMeter_take bi_WindowMeter_take
  have makWM := mak_WindowMeter2 (P := l.prog) (w := w) (base := base) (mg := mg) kl_WindowMeter M_WindowMeter mg_WindowMeter fn_WindowMeter_init bi_WindowMeter_init
  have makJ := mak_Jar (P := l.prog) (w := w) (base := base) (mg := mg) Gc kl_Jar c_is M_Jar mg_Jar fn_Jar_init bi_Jar_init
  have makW := mak_Window (P := l.prog) (w := w) (base := base) (mg := mg) Gc kl_Window c_is M_Window mg_Window fn_Window_init bi_Window_init
  have metJ := met_Jar_meter2 (P := l.prog) (w := w) (base := base) (mg := mg) kl_Jar makJM me_Jar_meter fn_Jar_meter bi_Jar_meter
  have metW := met_Window_meter2 (P := l.prog) (w := w) (base := base) (mg := mg) kl_Window makWM me_Window_meter fn_Window_meter bi_Window_meter
  have nwm := cal_new_meters (P := l.prog) (w := w) (base := base) (mg := mg) metJ metW df_new_meters bi_new_meters
  have wfa := cal_wait_for_all (P := l.prog) (w := w) (base := base) (mg := mg) T waitJ waitW df_wait_for_all bi_wait_for_all
  have tba := cal_take_by_all (P := l.prog) (w := w) (base := base) (mg := mg) takeJ takeW df_take_by_all bi_take_by_all
  have ckb := cal_check_bound (P := l.prog) (w := w) (base := base) (mg := mg) T GG BB R_NoBound df_check_bound bi_check_bound
  have cpb := cal_copied_bounds (P := l.prog) (w := w) (base := base) (mg := mg) T GG R_NoBound ckb df_copied_bounds bi_copied_bounds
  have ckm := cal_check_moment (P := l.prog) (w := w) (base := base) (mg := mg) GG R_NoMoment c_is df_check_moment bi_check_moment
  have ckc := cal_check_cost (P := l.prog) (w := w) (base := base) (mg := mg) GG R_NoCost c_is df_check_cost bi_check_cost
  have cell := cal_Lcell (P := l.prog) (w := w) (base := base) (mg := mg) T df_Lcell bi_Lcell
  have isn := cal_is_name (P := l.prog) (w := w) (base := base) (mg := mg) T Gc df_is_name bi_is_name
  have gmo := met_Gate__meters_of (P := l.prog) (w := w) (base := base) (mg := mg) (A := ⟨C_Gate, C_Jar, C_Window, C_JarMeter, C_WindowMeter⟩) kl_Gate nwm me_Gate__meters_of fn_Gate__meters_of bi_Gate__meters_of
  have gan := met_Gate__answer (P := l.prog) (w := w) (base := base) (mg := mg) (A := ⟨C_Gate, C_Jar, C_Window, C_JarMeter, C_WindowMeter⟩) T kl_Gate wfa (metMono (by decide) canJ) canW me_Gate__answer fn_Gate__answer bi_Gate__answer
  have gck := met_Gate__check (P := l.prog) (w := w) (base := base) (mg := mg) (A := ⟨C_Gate, C_Jar, C_Window, C_JarMeter, C_WindowMeter⟩) (cs := fun i => ([Cx0, Cx1, Cx2, Cx3, Cx4, Cx5] : List Addr).getD i 0) Gc kl_Gate R_NoName R_Late isn ckm ckc me_Gate__check fn_Gate__check bi_Gate__check
  have gas := met_Gate_ask (P := l.prog) (w := w) (base := base) (mg := mg) (A := ⟨C_Gate, C_Jar, C_Window, C_JarMeter, C_WindowMeter⟩) kl_Gate gck gmo gan me_Gate_ask fn_Gate_ask bi_Gate_ask
  have gvi := met_Gate_visit (P := l.prog) (w := w) (base := base) (mg := mg) (A := ⟨C_Gate, C_Jar, C_Window, C_JarMeter, C_WindowMeter⟩) kl_Gate gas gmo tba me_Gate_visit fn_Gate_visit bi_Gate_visit
  have gmk := mak_Gate (P := l.prog) (w := w) (base := base) (mg := mg) (A := ⟨C_Gate, C_Jar, C_Window, C_JarMeter, C_WindowMeter⟩) kl_Gate cpb nwm M_Gate mg_Gate fn_Gate_init bi_Gate_init
  have gnm := met_Gate_names (P := l.prog) (w := w) (base := base) (mg := mg) (A := ⟨C_Gate, C_Jar, C_Window, C_JarMeter, C_WindowMeter⟩) T kl_Gate me_Gate_names fn_Gate_names bi_Gate_names
  have gkp := met_Gate_kept (P := l.prog) (w := w) (base := base) (mg := mg) (A := ⟨C_Gate, C_Jar, C_Window, C_JarMeter, C_WindowMeter⟩) T kl_Gate keptJ keptW me_Gate_kept fn_Gate_kept bi_Gate_kept
  have mjx := mak_JarX (P := l.prog) (w := w) (base := base) (mg := mg) (cs := fun i => ([Cx0, Cx1, Cx2, Cx3, Cx4, Cx5] : List Addr).getD i 0) GG kl_Jar R_NoBound c_is M_Jar mg_Jar fn_Jar_init bi_Jar_init
  have mwx := mak_WindowX (P := l.prog) (w := w) (base := base) (mg := mg) (cs := fun i => ([Cx0, Cx1, Cx2, Cx3, Cx4, Cx5] : List Addr).getD i 0) GG kl_Window R_NoBound c_is M_Window mg_Window fn_Window_init bi_Window_init
  have nmb := cal_number (P := l.prog) (w := w) (base := base) (mg := mg) (cs := fun i => ([Cx0, Cx1, Cx2, Cx3, Cx4, Cx5] : List Addr).getD i 0) T GG R_BadRow df_number bi_number
  have ckl := cal_check_length (P := l.prog) (w := w) (base := base) (mg := mg) (cs := fun i => ([Cx0, Cx1, Cx2, Cx3, Cx4, Cx5] : List Addr).getD i 0) T GG R_BadRow df_check_length bi_check_length
  have shn := cal_shown (P := l.prog) (w := w) (base := base) (mg := mg) T df_shown bi_shown
  have mkp := mak_Player (P := l.prog) (w := w) (base := base) (mg := mg) (A := ⟨C_Gate, C_Jar, C_Window, C_JarMeter, C_WindowMeter⟩) kl_Player M_Player mg_Player fn_Player_init bi_Player_init
  have mdg := met_made (P := l.prog) (w := w) (base := base) (mg := mg) (A := ⟨C_Gate, C_Jar, C_Window, C_JarMeter, C_WindowMeter⟩) (cs := fun i => ([Cx0, Cx1, Cx2, Cx3, Cx4, Cx5] : List Addr).getD i 0) T kl_Player gmk me_Player__made_gate fn_Player__made_gate bi_Player__made_gate
  have tel := met_tell (P := l.prog) (w := w) (base := base) (mg := mg) (A := ⟨C_Gate, C_Jar, C_Window, C_JarMeter, C_WindowMeter⟩) (cs := fun i => ([Cx0, Cx1, Cx2, Cx3, Cx4, Cx5] : List Addr).getD i 0) T kl_Player R_BadRow ckl mdg gnm gkp me_Player__tell fn_Player__tell bi_Player__tell
  have aov := met_ask (P := l.prog) (w := w) (base := base) (mg := mg) (A := ⟨C_Gate, C_Jar, C_Window, C_JarMeter, C_WindowMeter⟩) (cs := fun i => ([Cx0, Cx1, Cx2, Cx3, Cx4, Cx5] : List Addr).getD i 0) T kl_Player R_BadRow ckl nmb mdg shn gas gvi me_Player__ask_or_visit fn_Player__ask_or_visit bi_Player__ask_or_visit
  have adb := met_add (P := l.prog) (w := w) (base := base) (mg := mg) (A := ⟨C_Gate, C_Jar, C_Window, C_JarMeter, C_WindowMeter⟩) (cs := fun i => ([Cx0, Cx1, Cx2, Cx3, Cx4, Cx5] : List Addr).getD i 0) T kl_Player R_BadRow ckl nmb mjx mwx cpb me_Player__add_bound fn_Player__add_bound bi_Player__add_bound
  have ans := met_answer (P := l.prog) (w := w) (base := base) (mg := mg) (A := ⟨C_Gate, C_Jar, C_Window, C_JarMeter, C_WindowMeter⟩) (cs := fun i => ([Cx0, Cx1, Cx2, Cx3, Cx4, Cx5] : List Addr).getD i 0) T kl_Player R_BadRow adb aov tel me_Player_answer fn_Player_answer bi_Player_answer
  have aor := cal_aor (P := l.prog) (w := w) (base := base) (mg := mg) (A := ⟨C_Gate, C_Jar, C_Window, C_JarMeter, C_WindowMeter⟩) (cs := fun i => ([Cx0, Cx1, Cx2, Cx3, Cx4, Cx5] : List Addr).getD i 0) T GG eeA ans df_answer_or_refusal bi_answer_or_refusal
  have ply := cal_play (P := l.prog) (w := w) (base := base) (mg := mg) (A := ⟨C_Gate, C_Jar, C_Window, C_JarMeter, C_WindowMeter⟩) T aor mkp df_play bi_play
  have scl := cal_Lscale (P := l.prog) (w := w) (base := base) (mg := mg) df_Lscale bi_Lscale
  have gap := cal_Lgap (P := l.prog) (w := w) (base := base) (mg := mg) df_Lgap bi_Lgap
  have cst := cal_Lcost (P := l.prog) (w := w) (base := base) (mg := mg) T df_Lcost bi_Lcost
  have bnd := cal_Lbound (P := l.prog) (w := w) (base := base) (mg := mg) T df_Lbound bi_Lbound
  have made := cal_Lmade (P := l.prog) (w := w) (base := base) (mg := mg) makJ makW df_Lmade bi_Lmade
  have lrw := cal_Lrow (P := l.prog) (w := w) (base := base) (mg := mg) T cst df_Lrow bi_Lrow
  have lsp := cal_Lspread (P := l.prog) (w := w) (base := base) (mg := mg) T df_Lspread bi_Lspread
  have lkd := cal_Lkind (P := l.prog) (w := w) (base := base) (mg := mg) (A := ⟨C_Gate, C_Jar, C_Window, C_JarMeter, C_WindowMeter⟩) (cs := fun i => ([Cx0, Cx1, Cx2, Cx3, Cx4, Cx5] : List Addr).getD i 0) T GG KR df_Lkind bi_Lkind
  have ltx := cal_Ltext (P := l.prog) (w := w) (base := base) (mg := mg) T df_Ltext bi_Ltext
  have lan := cal_Lanswer (P := l.prog) (w := w) (base := base) (mg := mg) (A := ⟨C_Gate, C_Jar, C_Window, C_JarMeter, C_WindowMeter⟩) (cs := fun i => ([Cx0, Cx1, Cx2, Cx3, Cx4, Cx5] : List Addr).getD i 0) T GG KR gas gvi gnm gkp lkd ltx df_Lanswer bi_Lanswer
  exact ok_law (cs := fun i => ([Cx0, Cx1, Cx2, Cx3, Cx4, Cx5] : List Addr).getD i 0) T df_law.fn cell scl gap bnd made gmk lrw lsp lan ply
theorem walk {l : PySem.W.OpenLaw} {q : Program} {loose : List Str} {XP : (Str → Option Value) → Heap → Prop} {YP : World → Heap → Prop} {d : DefRec} {K : Params → PySem.W.Frag} (hn : l.most = some 63) (hdf : d.params.defaults = [])
    (hY : ∀ (w : World) (h : Heap), YP w h → (K w.params).In h)
    (F : ∀ (w : World) (mg : Str → Option Value) (fa : Addr) (h : Heap), (K w.params).In h → h.Ns mainGlobals mg → mg d.name = some (.ref fa) →
      ∃ fd : FuncData, (∀ (s : Shared) (u : Value), BindsTo s fd ⟨[u], []⟩ [("_law_script", u)]) ∧ ∀ base : Heap, (K w.params).In base → base.Ns mainGlobals mg → FnOk l.prog w (K w.params) mg base CX0 12 fa fd ["_law_script"] (spLaw (K w.params))) :
    PySem.W.WalkO q loose XP YP l.row.toRowW d [] (fun f vs => PySem.call f vs) :=
  L2.walk_of (n := 63) (k := 12) (x := "_law_script") (CX := fun _ => CX0) (sp := fun w => spLaw (K w.params)) hn (by decide) hdf ⟨rfl, by decide, by decide⟩ hY F (fun _ _ a ns hl _ hS => ⟨a, ns, rfl, hS, hl, fun _ => rfl⟩) fun _ _ _ _ _ z => z
end
end Tk
open PySem PySem.W PyProof.Rows
set_option maxRecDepth 100000 in
set_option maxHeartbeats 0 in
theorem PySem.Challenge.cw_turnstile_k12_whole_rows_played_holds : PySem.Challenge.rw_turnstile_k12_whole_rows_played.Holds := by
  w_on; o_law; k_head; (case hw => w_witness2)
  k_fill
  refine Tk.walk (l := PySem.Challenge.rw_turnstile_k12_whole_rows_played) rfl rfl (fun w h Y => PySem.W.kIn_of Y) ?F
  case F =>
    intro w mg fa h KX G hmg
    refine' Tk.all_mk KX G hmg ?z_len ?z_range ?z_max ?z_min ?z_int ?z_tuple ?z_list ?z_isinstance ?z_enumerate ?z_ValueError ?z_super ?z_all ?z_sorted ?z_sum ?z_str ?z_bool ?g_LARGEST_SIZE ?g_LARGEST_FLOW ?g_LARGEST_MOST ?g_LARGEST_SPAN ?g_MOST_BOUNDS ?g_LARGEST_MOMENT ?g_LARGEST_COST ?g_LONGEST_NAME ?g_MOST_FIGURES ?g_FIGURES ?aC_JarMeter ?pg_JarMeter ?hd_JarMeter ?po_JarMeter ?sa_JarMeter ?mk_JarMeter ?kc_JarMeter ?n_JarMeter_0 ?n_JarMeter_1 ?n_JarMeter_2 ?n_JarMeter_3 ?a1 ?l1 ?c1 ?k1 ?i1 ?a2 ?l2 ?c2 ?k2 ?i2 ?a3 ?l3 ?c3 ?k3 ?i3 ?a4 ?l4 ?c4 ?k4 ?i4 ?a5 ?l5 ?c5 ?k5 ?i5 ?a6 ?l6 ?c6 ?k6 ?i6 ?aC_WindowMeter ?pg_WindowMeter ?hd_WindowMeter ?po_WindowMeter ?sa_WindowMeter ?mk_WindowMeter ?kc_WindowMeter ?n_WindowMeter_0 ?n_WindowMeter_1 ?n_WindowMeter_2 ?n_WindowMeter_3 ?n_WindowMeter_4 ?a7 ?l7 ?c7 ?k7 ?i7 ?a8 ?l8 ?c8 ?k8 ?i8 ?a9 ?l9 ?c9 ?k9 ?i9 ?a10 ?l10 ?c10 ?k10 ?i10 ?a11 ?l11 ?c11 ?k11 ?i11 ?a12 ?l12 ?c12 ?k12 ?i12 ?aC_Jar ?pg_Jar ?hd_Jar ?po_Jar ?sa_Jar ?mk_Jar ?kc_Jar ?n_Jar_0 ?n_Jar_1 ?a13 ?l13 ?c13 ?k13 ?i13 ?a14 ?l14 ?c14 ?k14 ?i14 ?aC_Window ?pg_Window ?hd_Window ?po_Window ?sa_Window ?mk_Window ?kc_Window ?n_Window_0 ?n_Window_1 ?a15 ?l15 ?c15 ?k15 ?i15 ?a16 ?l16 ?c16 ?k16 ?i16 ?aC_Gate ?pg_Gate ?hd_Gate ?po_Gate ?sa_Gate ?mk_Gate ?kc_Gate ?n_Gate_0 ?n_Gate_1 ?n_Gate_2 ?n_Gate_3 ?a17 ?l17 ?lT17 ?c17 ?k17 ?i17 ?a18 ?l18 ?c18 ?k18 ?i18 ?a19 ?l19 ?c19 ?k19 ?i19 ?a20 ?l20 ?c20 ?k20 ?i20 ?a21 ?l21 ?c21 ?k21 ?i21 ?a22 ?l22 ?c22 ?k22 ?i22 ?a23 ?l23 ?c23 ?k23 ?i23 ?a24 ?l24 ?c24 ?k24 ?i24 ?aC_Player ?pg_Player ?hd_Player ?po_Player ?sa_Player ?mk_Player ?kc_Player ?n_Player_0 ?n_Player_1 ?a25 ?l25 ?c25 ?k25 ?i25 ?a26 ?l26 ?c26 ?k26 ?i26 ?a27 ?l27 ?c27 ?k27 ?i27 ?a28 ?l28 ?c28 ?k28 ?i28 ?a29 ?l29 ?c29 ?k29 ?i29 ?a30 ?l30 ?c30 ?k30 ?i30 ?aG ?dG ?tG ?sGB ?hn ?ht ?a_0 ?kp_0 ?hg_0 ?hk_0 ?hs_0 ?hd_0 ?ha_0 ?hm_0 ?sg_0 ?sv_0 ?ty_0 ?x_0 ?a_1 ?kp_1 ?hg_1 ?hk_1 ?hs_1 ?hd_1 ?ha_1 ?hm_1 ?sg_1 ?sv_1 ?ty_1 ?x_1 ?a_2 ?kp_2 ?hg_2 ?hk_2 ?hs_2 ?hd_2 ?ha_2 ?hm_2 ?sg_2 ?sv_2 ?ty_2 ?x_2 ?a_3 ?kp_3 ?hg_3 ?hk_3 ?hs_3 ?hd_3 ?ha_3 ?hm_3 ?sg_3 ?sv_3 ?ty_3 ?x_3 ?a_4 ?kp_4 ?hg_4 ?hk_4 ?hs_4 ?hd_4 ?ha_4 ?hm_4 ?sg_4 ?sv_4 ?ty_4 ?x_4 ?a_5 ?kp_5 ?hg_5 ?hk_5 ?hs_5 ?hd_5 ?ha_5 ?hm_5 ?sg_5 ?sv_5 ?ty_5 ?x_5 ?s_0_0 ?s_0_1 ?s_0_2 ?s_0_3 ?s_0_4 ?s_0_5 ?s_1_0 ?s_1_1 ?s_1_2 ?s_1_3 ?s_1_4 ?s_1_5 ?s_2_0 ?s_2_1 ?s_2_2 ?s_2_3 ?s_2_4 ?s_2_5 ?s_3_0 ?s_3_1 ?s_3_2 ?s_3_3 ?s_3_4 ?s_3_5 ?s_4_0 ?s_4_1 ?s_4_2 ?s_4_3 ?s_4_4 ?s_4_5 ?s_5_0 ?s_5_1 ?s_5_2 ?s_5_3 ?s_5_4 ?s_5_5 ?haJ ?hmJ ?haW ?hmW ?tJ ?tW ?wjs ?wws ?a31 ?l31 ?c31 ?k31 ?a32 ?l32 ?c32 ?k32 ?a33 ?l33 ?c33 ?k33 ?a34 ?l34 ?c34 ?k34 ?a35 ?l35 ?c35 ?k35 ?a36 ?l36 ?c36 ?k36 ?a37 ?l37 ?c37 ?k37 ?a38 ?l38 ?c38 ?k38 ?a39 ?l39 ?c39 ?k39 ?a40 ?l40 ?c40 ?k40 ?a41 ?l41 ?c41 ?k41 ?a42 ?l42 ?c42 ?k42 ?a43 ?l43 ?c43 ?k43 ?a44 ?l44 ?c44 ?k44 ?a45 ?l45 ?c45 ?k45 ?a46 ?l46 ?c46 ?k46 ?a47 ?l47 ?c47 ?k47 ?a48 ?l48 ?c48 ?k48 ?a49 ?l49 ?c49 ?k49 ?a50 ?l50 ?c50 ?k50 ?a51 ?l51 ?c51 ?k51 ?a52 ?l52 ?c52 ?k52 ?a53 ?l53 ?c53 ?k53 ?a54 ?l54 ?c54 ?k54 ?a55 ?l55 ?c55 ?k55 ?a56 ?l56 ?c56 ?k56 ?a57 ?l57 ?c57 ?k57
    (case z_len => k_is)
    (case z_range => k_is)
    (case z_max => k_is)
    (case z_min => k_is)
    (case z_int => k_is)
    (case z_tuple => k_is)
    (case z_list => k_is)
    (case z_isinstance => k_is)
    (case z_enumerate => k_is)
    (case z_ValueError => k_is)
    (case z_super => k_is)
    (case z_all => k_is)
    (case z_sorted => k_is)
    (case z_sum => k_is)
    (case z_str => k_is)
    (case z_bool => k_is)
    (case g_LARGEST_SIZE => k_is)
    (case g_LARGEST_FLOW => k_is)
    (case g_LARGEST_MOST => k_is)
    (case g_LARGEST_SPAN => k_is)
    (case g_MOST_BOUNDS => k_is)
    (case g_LARGEST_MOMENT => k_is)
    (case g_LARGEST_COST => k_is)
    (case g_LONGEST_NAME => k_is)
    (case g_MOST_FIGURES => k_is)
    (case g_FIGURES => k_is)
    (case aC_JarMeter => k_is)
    (case pg_JarMeter => k_is)
    (case hd_JarMeter => k_is)
    (case po_JarMeter => k_is)
    (case sa_JarMeter => k_is)
    (case mk_JarMeter => k_is)
    (case kc_JarMeter => k_is)
    (case n_JarMeter_0 => k_is)
    (case n_JarMeter_1 => k_is)
    (case n_JarMeter_2 => k_is)
    (case n_JarMeter_3 => k_is)
    (case a1 => k_is)
    (case l1 => k_is)
    (case c1 => k_is)
    (case k1 => k_is)
    (case i1 => k_is)
    (case a2 => k_is)
    (case l2 => k_is)
    (case c2 => k_is)
    (case k2 => k_is)
    (case i2 => k_is)
    (case a3 => k_is)
    (case l3 => k_is)
    (case c3 => k_is)
    (case k3 => k_is)
    (case i3 => k_is)
    (case a4 => k_is)
    (case l4 => k_is)
    (case c4 => k_is)
    (case k4 => k_is)
    (case i4 => k_is)
    (case a5 => k_is)
    (case l5 => k_is)
    (case c5 => k_is)
    (case k5 => k_is)
    (case i5 => k_is)
    (case a6 => k_is)
    (case l6 => k_is)
    (case c6 => k_is)
    (case k6 => k_is)
    (case i6 => k_is)
    (case aC_WindowMeter => k_is)
    (case pg_WindowMeter => k_is)
    (case hd_WindowMeter => k_is)
    (case po_WindowMeter => k_is)
    (case sa_WindowMeter => k_is)
    (case mk_WindowMeter => k_is)
    (case kc_WindowMeter => k_is)
    (case n_WindowMeter_0 => k_is)
    (case n_WindowMeter_1 => k_is)
    (case n_WindowMeter_2 => k_is)
    (case n_WindowMeter_3 => k_is)
    (case n_WindowMeter_4 => k_is)
    (case a7 => k_is)
    (case l7 => k_is)
    (case c7 => k_is)
    (case k7 => k_is)
    (case i7 => k_is)
    (case a8 => k_is)
    (case l8 => k_is)
    (case c8 => k_is)
    (case k8 => k_is)
    (case i8 => k_is)
    (case a9 => k_is)
    (case l9 => k_is)
    (case c9 => k_is)
    (case k9 => k_is)
    (case i9 => k_is)
    (case a10 => k_is)
    (case l10 => k_is)
    (case c10 => k_is)
    (case k10 => k_is)
    (case i10 => k_is)
    (case a11 => k_is)
    (case l11 => k_is)
    (case c11 => k_is)
    (case k11 => k_is)
    (case i11 => k_is)
    (case a12 => k_is)
    (case l12 => k_is)
    (case c12 => k_is)
    (case k12 => k_is)
    (case i12 => k_is)
    (case aC_Jar => k_is)
    (case pg_Jar => k_is)
    (case hd_Jar => k_is)
    (case po_Jar => k_is)
    (case sa_Jar => k_is)
    (case mk_Jar => k_is)
    (case kc_Jar => k_is)
    (case n_Jar_0 => k_is)
    (case n_Jar_1 => k_is)
    (case a13 => k_is)
    (case l13 => k_is)
    (case c13 => k_is)
    (case k13 => k_is)
    (case i13 => k_is)
    (case a14 => k_is)
    (case l14 => k_is)
    (case c14 => k_is)
    (case k14 => k_is)
    (case i14 => k_is)
    (case aC_Window => k_is)
    (case pg_Window => k_is)
    (case hd_Window => k_is)
    (case po_Window => k_is)
    (case sa_Window => k_is)
    (case mk_Window => k_is)
    (case kc_Window => k_is)
    (case n_Window_0 => k_is)
    (case n_Window_1 => k_is)
    (case a15 => k_is)
    (case l15 => k_is)
    (case c15 => k_is)
    (case k15 => k_is)
    (case i15 => k_is)
    (case a16 => k_is)
    (case l16 => k_is)
    (case c16 => k_is)
    (case k16 => k_is)
    (case i16 => k_is)
    (case aC_Gate => k_is)
    (case pg_Gate => k_is)
    (case hd_Gate => k_is)
    (case po_Gate => k_is)
    (case sa_Gate => k_is)
    (case mk_Gate => k_is)
    (case kc_Gate => k_is)
    (case n_Gate_0 => k_is)
    (case n_Gate_1 => k_is)
    (case n_Gate_2 => k_is)
    (case n_Gate_3 => k_is)
    (case a17 => k_is)
    (case l17 => k_is)
    (case lT17 => k_is)
    (case c17 => k_is)
    (case k17 => k_is)
    (case i17 => k_is)
    (case a18 => k_is)
    (case l18 => k_is)
    (case c18 => k_is)
    (case k18 => k_is)
    (case i18 => k_is)
    (case a19 => k_is)
    (case l19 => k_is)
    (case c19 => k_is)
    (case k19 => k_is)
    (case i19 => k_is)
    (case a20 => k_is)
    (case l20 => k_is)
    (case c20 => k_is)
    (case k20 => k_is)
    (case i20 => k_is)
    (case a21 => k_is)
    (case l21 => k_is)
    (case c21 => k_is)
    (case k21 => k_is)
    (case i21 => k_is)
    (case a22 => k_is)
    (case l22 => k_is)
    (case c22 => k_is)
    (case k22 => k_is)
    (case i22 => k_is)
    (case a23 => k_is)
    (case l23 => k_is)
    (case c23 => k_is)
    (case k23 => k_is)
    (case i23 => k_is)
    (case a24 => k_is)
    (case l24 => k_is)
    (case c24 => k_is)
    (case k24 => k_is)
    (case i24 => k_is)
    (case aC_Player => k_is)
    (case pg_Player => k_is)
    (case hd_Player => k_is)
    (case po_Player => k_is)
    (case sa_Player => k_is)
    (case mk_Player => k_is)
    (case kc_Player => k_is)
    (case n_Player_0 => k_is)
    (case n_Player_1 => k_is)
    (case a25 => k_is)
    (case l25 => k_is)
    (case c25 => k_is)
    (case k25 => k_is)
    (case i25 => k_is)
    (case a26 => k_is)
    (case l26 => k_is)
    (case c26 => k_is)
    (case k26 => k_is)
    (case i26 => k_is)
    (case a27 => k_is)
    (case l27 => k_is)
    (case c27 => k_is)
    (case k27 => k_is)
    (case i27 => k_is)
    (case a28 => k_is)
    (case l28 => k_is)
    (case c28 => k_is)
    (case k28 => k_is)
    (case i28 => k_is)
    (case a29 => k_is)
    (case l29 => k_is)
    (case c29 => k_is)
    (case k29 => k_is)
    (case i29 => k_is)
    (case a30 => k_is)
    (case l30 => k_is)
    (case c30 => k_is)
    (case k30 => k_is)
    (case i30 => k_is)
    (case aG => k_is)
    (case dG => k_is)
    (case tG => k_is)
    (case sGB => k_is)
    (case hn => k_is)
    (case ht => k_is)
    (case a_0 => k_is)
    (case kp_0 => k_is)
    (case hg_0 => k_is)
    (case hk_0 => k_is)
    (case hs_0 => k_is)
    (case hd_0 => k_is)
    (case ha_0 => k_is)
    (case hm_0 => k_is)
    (case sg_0 => k_is)
    (case sv_0 => k_is)
    (case ty_0 => k_is)
    (case x_0 => k_exc)
    (case a_1 => k_is)
    (case kp_1 => k_is)
    (case hg_1 => k_is)
    (case hk_1 => k_is)
    (case hs_1 => k_is)
    (case hd_1 => k_is)
    (case ha_1 => k_is)
    (case hm_1 => k_is)
    (case sg_1 => k_is)
    (case sv_1 => k_is)
    (case ty_1 => k_is)
    (case x_1 => k_exc)
    (case a_2 => k_is)
    (case kp_2 => k_is)
    (case hg_2 => k_is)
    (case hk_2 => k_is)
    (case hs_2 => k_is)
    (case hd_2 => k_is)
    (case ha_2 => k_is)
    (case hm_2 => k_is)
    (case sg_2 => k_is)
    (case sv_2 => k_is)
    (case ty_2 => k_is)
    (case x_2 => k_exc)
    (case a_3 => k_is)
    (case kp_3 => k_is)
    (case hg_3 => k_is)
    (case hk_3 => k_is)
    (case hs_3 => k_is)
    (case hd_3 => k_is)
    (case ha_3 => k_is)
    (case hm_3 => k_is)
    (case sg_3 => k_is)
    (case sv_3 => k_is)
    (case ty_3 => k_is)
    (case x_3 => k_exc)
    (case a_4 => k_is)
    (case kp_4 => k_is)
    (case hg_4 => k_is)
    (case hk_4 => k_is)
    (case hs_4 => k_is)
    (case hd_4 => k_is)
    (case ha_4 => k_is)
    (case hm_4 => k_is)
    (case sg_4 => k_is)
    (case sv_4 => k_is)
    (case ty_4 => k_is)
    (case x_4 => k_exc)
    (case a_5 => k_is)
    (case kp_5 => k_is)
    (case hg_5 => k_is)
    (case hk_5 => k_is)
    (case hs_5 => k_is)
    (case hd_5 => k_is)
    (case ha_5 => k_is)
    (case hm_5 => k_is)
    (case sg_5 => k_is)
    (case sv_5 => k_is)
    (case ty_5 => k_is)
    (case x_5 => k_exc)
    (case s_0_0 => k_is)
    (case s_0_1 => k_is)
    (case s_0_2 => k_is)
    (case s_0_3 => k_is)
    (case s_0_4 => k_is)
    (case s_0_5 => k_is)
    (case s_1_0 => k_is)
    (case s_1_1 => k_is)
    (case s_1_2 => k_is)
    (case s_1_3 => k_is)
    (case s_1_4 => k_is)
    (case s_1_5 => k_is)
    (case s_2_0 => k_is)
    (case s_2_1 => k_is)
    (case s_2_2 => k_is)
    (case s_2_3 => k_is)
    (case s_2_4 => k_is)
    (case s_2_5 => k_is)
    (case s_3_0 => k_is)
    (case s_3_1 => k_is)
    (case s_3_2 => k_is)
    (case s_3_3 => k_is)
    (case s_3_4 => k_is)
    (case s_3_5 => k_is)
    (case s_4_0 => k_is)
    (case s_4_1 => k_is)
    (case s_4_2 => k_is)
    (case s_4_3 => k_is)
    (case s_4_4 => k_is)
    (case s_4_5 => k_is)
    (case s_5_0 => k_is)
    (case s_5_1 => k_is)
    (case s_5_2 => k_is)
    (case s_5_3 => k_is)
    (case s_5_4 => k_is)
    (case s_5_5 => k_is)
    (case haJ => k_is)
    (case hmJ => k_is)
    (case haW => k_is)
    (case hmW => k_is)
    (case tJ => k_is)
    (case tW => k_is)
    (case wjs => k_is)
    (case wws => k_is)
    (case a31 => k_is)
    (case l31 => k_is)
    (case c31 => k_is)
    (case k31 => k_is)
    (case a32 => k_is)
    (case l32 => k_is)
    (case c32 => k_is)
    (case k32 => k_is)
    (case a33 => k_is)
    (case l33 => k_is)
    (case c33 => k_is)
    (case k33 => k_is)
    (case a34 => k_is)
    (case l34 => k_is)
    (case c34 => k_is)
    (case k34 => k_is)
    (case a35 => k_is)
    (case l35 => k_is)
    (case c35 => k_is)
    (case k35 => k_is)
    (case a36 => k_is)
    (case l36 => k_is)
    (case c36 => k_is)
    (case k36 => k_is)
    (case a37 => k_is)
    (case l37 => k_is)
    (case c37 => k_is)
    (case k37 => k_is)
    (case a38 => k_is)
    (case l38 => k_is)
    (case c38 => k_is)
    (case k38 => k_is)
    (case a39 => k_is)
    (case l39 => k_is)
    (case c39 => k_is)
    (case k39 => k_is)
    (case a40 => k_is)
    (case l40 => k_is)
    (case c40 => k_is)
    (case k40 => k_is)
    (case a41 => k_is)
    (case l41 => k_is)
    (case c41 => k_is)
    (case k41 => k_is)
    (case a42 => k_is)
    (case l42 => k_is)
    (case c42 => k_is)
    (case k42 => k_is)
    (case a43 => k_is)
    (case l43 => k_is)
    (case c43 => k_is)
    (case k43 => k_is)
    (case a44 => k_is)
    (case l44 => k_is)
    (case c44 => k_is)
    (case k44 => k_is)
    (case a45 => k_is)
    (case l45 => k_is)
    (case c45 => k_is)
    (case k45 => k_is)
    (case a46 => k_is)
    (case l46 => k_is)
    (case c46 => k_is)
    (case k46 => k_is)
    (case a47 => k_is)
    (case l47 => k_is)
    (case c47 => k_is)
    (case k47 => k_is)
    (case a48 => k_is)
    (case l48 => k_is)
    (case c48 => k_is)
    (case k48 => k_is)
    (case a49 => k_is)
    (case l49 => k_is)
    (case c49 => k_is)
    (case k49 => k_is)
    (case a50 => k_is)
    (case l50 => k_is)
    (case c50 => k_is)
    (case k50 => k_is)
    (case a51 => k_is)
    (case l51 => k_is)
    (case c51 => k_is)
    (case k51 => k_is)
    (case a52 => k_is)
    (case l52 => k_is)
    (case c52 => k_is)
    (case k52 => k_is)
    (case a53 => k_is)
    (case l53 => k_is)
    (case c53 => k_is)
    (case k53 => k_is)
    (case a54 => k_is)
    (case l54 => k_is)
    (case c54 => k_is)
    (case k54 => k_is)
    (case a55 => k_is)
    (case l55 => k_is)
    (case c55 => k_is)
    (case k55 => k_is)
    (case a56 => k_is)
    (case l56 => k_is)
    (case c56 => k_is)
    (case k56 => k_is)
    (case a57 => k_is)
    (case l57 => k_is)
    (case c57 => k_is)
    (case k57 => k_is)
#print axioms PySem.Challenge.cw_turnstile_k12_whole_rows_played_holds
