"""Papers that are judged by four letters, and the systems and tables of bits behind them."""
