/- Buckets: the program's functions, all six. -/
import Derived.Test.YtmjlfhfadmndhaaBpJ
