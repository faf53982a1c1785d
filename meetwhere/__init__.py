"""Rows dealt among hands, decided for all stores."""
